"""What rules, rows and prices are worth: raised offers, lines, least lots, differences, steady plans."""

import itertools
import math
import random
import unittest
from fractions import Fraction

from cornerplans.corners import corners, price_above
from cornerplans.days import Box
from cornerplans.errors import (
    BadBook, BadMarks, BadNumber, BadOffer, BadPlan, NoPlans, NotSo, OtherThings, TooMany,
)
from cornerplans.offers import Offer, offer_of, price_of
from cornerplans.plans import Plans, plans_of
from cornerplans.prices import Prices, Row
from cornerplans.rules import Book
from cornerplans.words import Words
from cornerplans.worth import (
    corner_lines, differences, is_unsteady, least_rows, least_rules, parting_floors, price_lines, raised, steady,
    unsteady,
)
from tests.helper import (
    Case, any_values, fits, grid, is_inside, is_made, is_room, least_of, no_numbers, others_than, priced_plans,
    some_books, some_offer, worth_of, worth_on,
)
from tests.test_asking import NO_PRICES, NO_WORDS, some_rows
from tests.test_cells import NO_PLANS
from tests.test_corners import (
    AB, AB_OFFER, CORNERS, FAR, NO_FLOORS, NO_OFFERS_OF, OFFER, PLANS, above, cell_of, end_key, some_cases,
)
from tests.test_fares import EVER, NEVER
from tests.test_offers import NO_OFFERS, NO_OUTS
from tests.test_plans import BOOK

CHEAP, BARE = ("frame", (11, 20)), ("roof", (None, 15))
MARKS = [CHEAP, BARE]
NO_COUNTS = no_numbers(BadNumber(".")) + [(value, BadNumber(".")) for value in (-1, -FAR)]


def no_marks(name, stretch, bare):
    """Lists that are no marks: of a fare that has a stretch, and a bare one without a price."""
    mark = (name, stretch)
    others = [value for value in any_values() if value not in ([], ())]
    wrong = [(value, BadMarks(0 if isinstance(value, (list, tuple)) else None)) for value in others]
    first, last = stretch
    for item in [
        None, name, (), (name,), (name, None), [name, stretch], (name, list(stretch)), (name, stretch, 0), (name, bare),
        ("zz", stretch), (None, stretch), ([name], stretch), (name, (first, None)), (name, (None, last)), (name, first),
        (name, (first, last, 0)), (name, (None, None)), (stretch, name), ((name, stretch),), {name: stretch}, True,
        (name, (last, first)), ({}, stretch), (name, (first, last + 1)),
    ]:
        wrong += [([item], BadMarks(0)), ([mark, item], BadMarks(1)), ((item, mark), BadMarks(0))]
    wrong += [([mark, mark], BadMarks(1)), ([mark, mark, None], BadMarks(1)), ([None, mark, mark], BadMarks(0))]
    return wrong + [(value, BadMarks(None)) for value in ({}, {mark: 1}, "marks", None)]


NO_MARKS = no_marks("a", (4, 9), (3, 3))
TRUE_MARKS = [([(name, stretch)], BadMarks(0)) for name, stretch in (
    ("a", (True, 9)), ("a", (1, True)), ("a", (False, 9)), ("b", (None, False)),
)]


class Raised(Case):
    def test_by_hand(self):
        for marks, number, fares in [
            ([], 3, OFFER.fares),
            (MARKS, 0, OFFER.fares),
            ([CHEAP], 1, {**OFFER.fares, "frame": [((None, 10), 5), ((11, 20), 4), ((21, None), 8)]}),
            ([CHEAP], 2, {**OFFER.fares, "frame": [((None, 20), 5), ((21, None), 8)]}),
            ([CHEAP], 5, {**OFFER.fares, "frame": [((None, 10), 5), ((11, None), 8)]}),
            ([BARE], 5, {**OFFER.fares, "roof": [((None, None), 9)]}),
            (MARKS, 5, {"frame": [((None, 10), 5), ((11, None), 8)], "roof": [((None, None), 9)]}),
            ((BARE, CHEAP), 5, {"frame": [((None, 10), 5), ((11, None), 8)], "roof": [((None, None), 9)]}),
            ([("frame", (21, None)), ("frame", (None, 10))], FAR, {
                **OFFER.fares, "frame": [((None, 10), 5 + FAR), ((11, 20), 3), ((21, None), 8 + FAR)],
            }),
        ]:
            offer = raised(OFFER, marks, number)
            self.same((offer.things, offer.fares, offer.outs), (OFFER.things, fares, OFFER.outs))
            self.assertEqual(raised(offer=OFFER, marks=marks, number=number), offer)
        self.same(raised(AB_OFFER, [("a", (4, 9))], 4).fares["a"][1:], [((3, 3), None), ((4, 9), 4), ((10, None), 7)])

    def test_plain_look(self):
        chance = random.Random(1)
        for _ in range(60):
            offer = some_offer(chance, "ab", range(0, 5))
            stretches = priced_stretches(offer)
            marks, number = chance.sample(stretches, chance.randint(0, len(stretches))), chance.randint(0, 3)
            told = raised(offer, marks, number)
            for name, day in itertools.product("ab", range(-2, 8)):
                price = worth_on(offer.fares[name], day)
                if any(mark[0] == name and is_inside(day, mark[1]) for mark in marks):
                    price += number
                self.same(worth_on(told.fares[name], day), price)
            self.same(told.outs, offer.outs)

    def test_what_is_passed_stays(self):
        marks = [CHEAP]
        raised(OFFER, marks, 2)
        self.same((marks, OFFER.fares["frame"][1]), ([CHEAP], ((11, 20), 3)))

    def test_wrong(self):
        self.judged(raised, [AB_OFFER, [("a", (4, 9))], 3], [NO_OFFERS, NO_MARKS, NO_COUNTS])
        offer = Offer(["a", "b"], {"a": [((None, 0), 1), ((1, 9), 2), ((10, None), 3)], "b": [((None, 0), 1), (
            (1, None), None)]})
        for marks, error in TRUE_MARKS:
            self.fails(error, raised, offer, marks, 1)


def priced_stretches(offer):
    return [(name, days) for name in offer.things for days, price in offer.fares[name] if price is not None]


def some_marks(chance, offer):
    stretches = priced_stretches(offer)
    return chance.sample(stretches, chance.randint(0, len(stretches)))


def marked(offer, marks, plan):
    """A plain look: in how many marked stretches the things of a plan come."""
    return len([choice for choice in cell_of(offer, plan) if choice in marks])


def meetings(lines):
    """Fractions from 0 on: all at which two of some lines meet, some between them, and one behind them all."""
    lines = set(lines)
    found = {Fraction(0)}
    for (price, many), (worth, more) in itertools.combinations(lines, 2):
        if many != more:
            found.add(Fraction(worth - price, many - more))
    rows = sorted(row for row in found if row >= 0)
    between = [(one + other) / 2 for one, other in zip(rows, rows[1:])]
    return sorted([*rows, *between, rows[-1] + 1])


class CornerLines(Case):
    def test_by_hand(self):
        ends = [limit for _, limit in CORNERS]
        # With the roof marked, too, it is never worth the while to have it done early.
        self.same(corner_lines(PLANS, OFFER, [BARE]), [
            (7, 1, ends[0]), (12, 0, ends[1]), (17, 0, ends[2]),
        ])
        self.same(corner_lines(PLANS, OFFER, MARKS), [
            (7, 2, ends[0]), (9, 1, (("frame", 10), ("roof", 15))), (12, 1, ends[1]),
            (14, 0, (("frame", 10), ("roof", 19))), (17, 0, ends[2]),
        ])
        self.same(corner_lines(plans=PLANS, offer=OFFER, marks=tuple(MARKS[::-1])), corner_lines(PLANS, OFFER, MARKS))
        fare = [((None, 3), 1), ((4, 8), 4), ((9, None), 5)]
        offer = Offer(["a"], {"a": fare}, {"a": 9})
        self.same(corner_lines(Plans(["a"], [(("a", 0),)]), offer, [("a", (None, 3)), ("a", (4, 8))]), [
            (1, 1, (("a", 3),)), (4, 1, (("a", 8),)), (5, 0, (("a", None),)),
        ])
        self.same(corner_lines(Plans(["a"], [(("a", 0),)]), offer, [("a", (9, None))]), [
            (1, 0, (("a", 3),)), (4, 0, (("a", 8),)), (5, 1, (("a", None),)),
        ])
        self.same(corner_lines(Plans(["a"], [(("a", 0),)]), Offer(["a"], {"a": fare}, {"a": 0}), [("a", (4, 8))]), [
            (0, 0, ()), (1, 0, (("a", 3),)), (4, 1, (("a", 8),)), (5, 0, (("a", None),)),
        ])

    def test_lines_that_only_touch(self):
        # 0 + 2t, 1 + t and 2 meet in one point, and floors at the limit of the middle one fit the two others, too.
        fares = {
            "a": [((None, 0), 1), ((1, 5), 0), ((6, None), 1)],
            "b": [((None, 5), 0), ((6, None), 1)],
        }
        offer = Offer(["a", "b"], fares, {"a": None, "b": None})
        tied = Plans(["a", "b"], [(("a", 0), ("b", 0))])
        marks = [("a", (1, 5)), ("b", (None, 5))]
        ends = [(("a", 5), ("b", 5)), (("a", None), ("b", None))]
        self.same(corner_lines(tied, offer, marks), [(0, 2, ends[0]), (2, 0, ends[1])])
        self.same(price_lines(tied, offer, marks, ()), [((0, 1), 0, 2), ((1, 1), 2, 0)])
        offer = offer.with_fare("a", [((None, 0), 1), ((1, 5), 0), ((6, None), 2)])
        self.same(corner_lines(tied, offer, marks), [(0, 2, ends[0]), (1, 1, (("a", 0), ("b", 0))), (3, 0, ends[1])])

    def test_without_marks(self):
        for plans, offer, _, _ in some_cases(21):
            self.same(corner_lines(plans, offer, []), [(price, 0, limit) for price, limit in corners(plans, offer)])
        self.same(corner_lines(Plans(["a"]), Offer(["a"], {"a": EVER}, {"a": None}), [("a", (None, None))]), [])

    def test_plain_look(self):
        chance = random.Random(2)
        for plans, offer, priced, rows in some_cases(22):
            marks = some_marks(chance, offer)
            told = corner_lines(plans, offer, marks)
            self.assertEqual(told, sorted(told, key=lambda row: (row[0], row[1], end_key(row[2]))))
            lines = [(plan, (price, marked(offer, marks, plan))) for plan, price in priced]
            self.judge_values(told, lines, rows)
            self.judge_need(told)

    def judge_values(self, told, lines, rows):
        """They tell the price above by all fractions."""
        for floors in rows:
            fitting = {line for plan, line in lines if fits(floors, plan)}
            ours = {(price, many) for price, many, limit in told if is_room(floors, limit)}
            for t in meetings(fitting | ours):
                least = [least_of([price + many * t for price, many in part]) for part in (ours, fitting)]
                self.assertEqual(least[0], least[1])

    def judge_need(self, told):
        """Each is the only least one for its own limit as floors and some fraction."""
        for price, many, limit in told:
            others = [(p, m) for p, m, end in told if is_room(limit, end) and (p, m, end) != (price, many, limit)]
            fractions = meetings([(price, many), *others])
            self.assertTrue(any(all(price + many * t < p + m * t for p, m in others) for t in fractions))

    def test_wrong(self):
        good = [AB, AB_OFFER, [("a", (4, 9))]]
        self.judged(corner_lines, good, [NO_PLANS, NO_OFFERS_OF, NO_MARKS])


class PriceLines(Case):
    def test_by_hand(self):
        for marks, floors, told in [
            ([], (), [((0, 1), 7, 0)]),
            ([BARE], (), [((0, 1), 7, 1), ((5, 1), 12, 0)]),
            (MARKS, (), [((0, 1), 7, 2), ((2, 1), 9, 1), ((5, 1), 14, 0)]),
            (MARKS, (("frame", 14),), [((0, 1), 12, 1), ((5, 1), 17, 0)]),
            (MARKS, (("frame", 21),), [((0, 1), 17, 0)]),
            ([("frame", (21, None))], (("frame", 21),), [((0, 1), 17, 1)]),
        ]:
            self.same(price_lines(PLANS, OFFER, marks, floors), told)
            self.same(price_lines(plans=PLANS, offer=OFFER, marks=tuple(marks), floors=floors), told)
        fares = {"a": [((None, 0), 0), ((1, None), 3)], "b": [((None, 0), 0), ((1, None), 9)]}
        offer = Offer(["a", "b"], fares, {"a": None, "b": None})
        both = Plans(["a", "b"], [(("a", 0), ("b", 0))])
        marks = [("a", (None, 0)), ("b", (None, 0))]
        self.same(price_lines(both, offer, marks, ()), [((0, 1), 0, 2), ((6, 1), 12, 0)])
        offer = Offer(["a", "b"], {**fares, "b": [((None, 0), 0), ((1, None), 2)]}, {"a": None, "b": None})
        self.same(price_lines(both, offer, marks, ()), [((0, 1), 0, 2), ((5, 2), 5, 0)])
        self.same(price_lines(Plans(["a", "b"]), AB_OFFER, [], (("a", 0),)), [])
        self.same(price_lines(Plans(["a"]), Offer(["a"], {"a": EVER}, {"a": None}), [], ()), [])

    def test_equal_prices_at_the_beginning(self):
        fare = [((None, 0), 4), ((1, 1), 5), ((2, None), 4)]
        offer, one = Offer(["a"], {"a": fare}, {"a": None}), Plans(["a"], [(("a", 0),)])
        self.same(price_lines(one, offer, [("a", (None, 0))], ()), [((0, 1), 4, 0)])
        self.same(price_lines(one, offer, [("a", (2, None)), ("a", (None, 0))], ()), [((0, 1), 4, 1), ((1, 1), 5, 0)])

    def test_plain_look(self):
        chance, seen = random.Random(3), set()
        for plans, offer, priced, rows in some_cases(23):
            marks = some_marks(chance, offer)
            for floors in rows[::2]:
                told = price_lines(plans, offer, marks, floors)
                lines = {(price, marked(offer, marks, plan)) for plan, price in priced if fits(floors, plan)}
                self.judge(told, lines)
                seen.add(len(told))
                for number in range(4):
                    worth = price_above(plans, raised(offer, marks, number), floors)
                    self.same(least_of([price + many * number for _, price, many in told]), worth)
        self.assertTrue({0, 1, 2, 3} <= seen)

    def judge(self, told, lines):
        self.same(told == [], lines == set())
        if not told:
            return
        starts = [Fraction(*start) for start, _, _ in told]
        self.assertEqual(starts[0], 0)
        for (over, under), _, _ in told:
            self.assertEqual((math.gcd(over, under), under >= 1, over >= 0), (1, True, True))
        self.assertTrue(all(one < other for one, other in zip(starts, starts[1:])))
        self.assertTrue(all(one[2] > other[2] for one, other in zip(told, told[1:])))
        for t in meetings(lines | {(price, many) for _, price, many in told}):
            _, price, many = [row for row, start in zip(told, starts) if start <= t][-1]
            self.assertEqual(price + many * t, min(worth + more * t for worth, more in lines))

    def test_wrong(self):
        good = [AB, AB_OFFER, [("a", (4, 9))], ()]
        self.judged(price_lines, good, [NO_PLANS, NO_OFFERS_OF, NO_MARKS, NO_FLOORS])


def all_lots(many):
    return [lot for size in range(many + 1) for lot in itertools.combinations(range(many), size)]


def least_of_lots(many, is_so):
    """A plain look: the lots for which it is so, while it is so for no lot within them."""
    good = [lot for lot in all_lots(many) if is_so(lot)]
    return [lot for lot in good if not any(set(other) < set(lot) for other in good)]


class LeastRules(Case):
    def test_by_hand(self):
        self.same(least_rules(BOOK, OFFER), [(0, 1)])
        wide = OFFER.with_fare("roof", [((None, None), 4)])
        self.same(least_rules(BOOK, wide), [(1,)])
        self.same(least_rules(book=BOOK.some((0,)), offer=wide), [()])
        never = Offer(["frame", "roof"], {"frame": NEVER, "roof": NEVER}, {"frame": None, "roof": 3})
        self.same(least_rules(BOOK, never), [()])
        twice = BOOK.with_rule(BOOK[0])
        self.same(least_rules(twice, OFFER), [(0, 1), (1, 2)])
        self.same(least_rules(Book(["frame", "roof"]), OFFER), [()])
        needless = Book(["frame", "roof"], [((), ()), BOOK[1], BOOK[0], ((("frame", 1),), (("roof", 0),))])
        self.same(least_rules(needless, OFFER), [(1, 2)])

    def test_plain_look(self):
        chance, sizes = random.Random(4), set()
        for things, many in [("ab", 25), ("abc", 8)]:
            for book in some_books(5, many, list(things), [-1, 0, 1], 5):
                offer = some_offer(chance, things, range(0, 4))
                wanted = corners(plans_of(book), offer)
                told = least_rules(book, offer)
                sizes.add(len(told))
                self.same(told, least_of_lots(len(book), lambda lot: corners(
                    plans_of(Book(list(things), [book[at] for at in lot])), offer) == wanted))
                for lot in all_lots(len(book)):
                    if any(set(less) <= set(lot) for less in told):
                        self.same(corners(plans_of(book.some(lot)), offer), wanted)
        self.assertTrue({1, 2} <= sizes)

    def test_six_and_seven_rules(self):
        book = Book(["frame", "roof"], [BOOK[0]] * 5 + [BOOK[1]])
        self.same(least_rules(book, OFFER), [(at, 5) for at in range(5)])
        book = book.with_rule(BOOK[1])
        self.fails(TooMany(6), least_rules, book, OFFER)
        self.fails(TooMany(6), least_rules, Book(["a", "b"], [((), ())] * 12), AB_OFFER)
        self.fails(BadOffer(None), least_rules, book, AB_OFFER)

    def test_wrong(self):
        self.judged(least_rules, [Book(["a", "b"]), AB_OFFER], [others_than(Book, BadBook(None)), NO_OFFERS_OF])


class LeastRows(Case):
    ROWS = Prices([
        Row(Box("frame"), 8), Row(Box("frame", (None, 20)), 3), Row(Box("frame", (None, 10)), 5), Row(Box("roof"), 9),
        Row(Box("roof", (None, 15)), 4),
    ])
    MUST = {"frame": None, "roof": None}

    def test_by_hand(self):
        words = Words(["newest"])
        # The row of the early days tells nothing that the corners need.
        self.same(least_rows(PLANS, words, self.ROWS, self.MUST), [(0, 1, 3, 4)])
        self.same(least_rows(plans=PLANS, words=words, prices=self.ROWS, outs=self.MUST), [(0, 1, 3, 4)])
        self.same(least_rows(PLANS, words, Prices()), [()])
        self.same(least_rows(PLANS, words, self.ROWS), least_rows(PLANS, words, self.ROWS, {"frame": 0, "roof": 0}))
        one = Plans(["a"], [(("a", 0),)])
        twice = Prices([Row(Box("a"), 5), Row(Box(), 5), Row(Box("b"), 2)])
        self.same(least_rows(one, words, twice, {"a": None}), [(0,), (1,)])
        self.same(least_rows(one, Words(), Prices([Row(Box(), 0)]), {"a": 3}), [(0,)])

    def test_lots_above_a_least_one_need_not_tell_the_same(self):
        one, words = Plans(["a"], [(("a", 0),)]), Words(["newest"])
        prices = Prices([Row(Box(), 5), Row(Box(), 7), Row(Box(), 5)])
        self.same(least_rows(one, words, prices, {"a": None}), [(0,), (2,)])

    def test_plain_look(self):
        chance, sizes = random.Random(6), set()
        for _ in range(25):
            rows, words = some_rows(chance, chance.randint(0, 4)), Words(chance.sample(["newest", "highest"], 1))
            (plans,) = [plans_of(book) for book in some_books(chance.randint(0, 99), 1, ["a", "b"], [-1, 0, 1], 2)]
            outs = {name: chance.choice([None, 0, 1, 2]) for name in "ab"}
            wanted = corners(plans, offer_of(words, Prices(rows), ["a", "b"], outs))
            told = least_rows(plans, words, Prices(rows), outs)
            sizes.add(len(told))
            self.same(told, least_of_lots(len(rows), lambda lot: corners(plans, offer_of(
                words, Prices([rows[at] for at in lot]), ["a", "b"], outs)) == wanted))
        self.assertTrue({1, 2} <= sizes)

    def test_wrong(self):
        outs = [(value, BadOffer("outs")) for value in NO_OUTS if value is not None]
        good = [AB, Words(["newest"]), Prices([Row(Box(), 1)]), {"a": 1, "b": None}]
        self.judged(least_rows, good, [NO_PLANS, NO_WORDS, NO_PRICES, outs])


class Differences(Case):
    def test_by_hand(self):
        free = Plans(["frame", "roof"], [(("frame", 0),), (("roof", 0),)])
        told = differences(PLANS, free, OFFER)
        self.same([number for number, _ in told], [0, 5])
        for number, floors in told:
            self.same(price_above(PLANS, OFFER, floors) - price_above(free, OFFER, floors), number)
        self.same([number for number, _ in differences(one=free, other=PLANS, offer=OFFER)], [-5, 0])
        self.same(differences(PLANS, PLANS, OFFER)[0][0], 0)
        self.same(len(differences(PLANS, PLANS, OFFER)), 1)
        self.same(differences(Plans(["frame", "roof"]), PLANS, OFFER), [])
        self.same(differences(AB, AB, AB_OFFER), [(0, differences(AB, AB, AB_OFFER)[0][1])])
        self.same(parting_floors(PLANS, free, OFFER), None)

    def test_plain_look(self):
        chance, seen = random.Random(7), set()
        rows = grid("ab", range(-6, 7))
        books = some_books(8, 24, ["a", "b"], [-1, 0, 1], 3)
        for book, fewer in [(book, book.some(tuple(range(len(book) - 1)))) for book in books if len(book) > 0] + list(
                zip(books, books[1:])):
            one, other, offer = plans_of(book), plans_of(fewer), some_offer(chance, "ab", range(0, 4))
            ours, theirs = [priced_plans(plans, offer, range(-9, 11)) for plans in (one, other)]
            worths = [(above(ours, floors), above(theirs, floors)) for floors in rows]
            wanted = {price - worth for price, worth in worths if price is not None and worth is not None}
            told = differences(one, other, offer)
            self.same([number for number, _ in told], sorted(wanted))
            for number, floors in told:
                self.assertIn(floors, grid("ab", range(-20, 20)))
                self.same(price_above(one, offer, floors) - price_above(other, offer, floors), number)
            floors = parting_floors(one, other, offer)
            self.same(floors is None, not any((price is None) != (worth is None) for price, worth in worths))
            seen.add((len(told), floors is None))
            if floors is not None:
                found = [price_above(plans, offer, floors) for plans in (one, other)]
                self.same(found.count(None), 1)
            if one.is_part_of(other):
                self.assertTrue(all(number >= 0 for number, _ in told))
        self.assertTrue({(0, False), (1, True), (1, False), (2, True)} <= seen)

    def test_floors_as_late_as_one_likes(self):
        one = Plans(["a"], [(("a", 0),)])
        offer = Offer(["a"], {"a": EVER}, {"a": 0})
        told = differences(one, one, offer)
        self.same([number for number, _ in told], [0])
        self.same(parting_floors(one, Plans(["a"]), offer)[0][0], "a")
        self.same(parting_floors(Plans(["a"]), one, offer)[0][0], "a")
        late = Offer(["a"], {"a": [((None, FAR), 1), ((FAR + 1, None), None)]}, {"a": 0})
        self.same(fits(parting_floors(one, Plans(["a"]), late), (("a", FAR),)), True)

    def test_new_lists(self):
        differences(PLANS, PLANS, OFFER).clear()
        self.same(len(differences(PLANS, PLANS, OFFER)), 1)

    def test_wrong(self):
        others = [(value, OtherThings(".")) for value in (PLANS, Plans(["a"]), Plans(["a", "b", "c"]))]
        for call in (differences, parting_floors):
            self.judged(call, [AB, AB, AB_OFFER], [NO_PLANS, NO_PLANS + others, NO_OFFERS_OF])
            self.fails(NoPlans("."), call, None, AB, None)
            self.fails(OtherThings("."), call, AB, PLANS, None)


def made_cells(plans, offer, floors, window=range(-8, 12)):
    """A plain look: the cells with a made plan that meets floors, with their prices."""
    rows = priced_plans(plans, offer, window)
    return {cell_of(offer, plan): price for plan, price in rows if fits(floors, plan)}


def unlike(offer, one, other):
    one, other = dict(one), dict(other)
    return len([name for name in offer.things if one.get(name) != other.get(name)])


def dearer_offers(offer, number):
    """All offers that are dearer by up to a number."""
    places = [(name, at) for name in offer.things for at, (_, price) in enumerate(offer.fares[name])
              if price is not None]
    places += [(name, None) for name in offer.things if offer.outs[name] is not None]
    for more in itertools.product(range(number + 1), repeat=len(places)):
        added = dict(zip(places, more))
        fares = {}
        for name in offer.things:
            fares[name] = merged([(days, None if price is None else price + added[name, at])
                                  for at, (days, price) in enumerate(offer.fares[name])])
        outs = {name: None if out is None else out + added[name, None] for name, out in offer.outs.items()}
        yield Offer(offer.things, fares, outs)


def merged(rows):
    fare = []
    for (first, last), price in rows:
        if fare and fare[-1][1] == price:
            first = fare.pop()[0][0]
        fare.append(((first, last), price))
    return fare


BEST = (("frame", 13), ("roof", 15))


class Steady(Case):
    def test_by_hand(self):
        # 2 more for an early frame, 5 for a late roof, 10 for both things.
        self.same(steady(PLANS, OFFER, (), BEST), 2)
        self.same(steady(plans=PLANS, offer=OFFER, floors=(), plan=BEST), 2)
        self.same(steady(PLANS, OFFER, (("frame", 11),), BEST), 5)
        self.same(steady(PLANS, OFFER, (("frame", 14),), (("frame", 14), ("roof", 16))), 5)
        self.same(steady(PLANS, OFFER, (("frame", 21),), (("frame", 30), ("roof", 32))), None)
        one = Plans(["a"], [(("a", 0),)])
        fare = [((None, 0), 1), ((1, None), 9)]
        self.same(steady(one, Offer(["a"], {"a": fare}, {"a": 4}), (), (("a", -5),)), 3)
        self.same(steady(one, Offer(["a"], {"a": fare}, {"a": None}), (), (("a", -5),)), 8)
        self.same(steady(one, Offer(["a"], {"a": fare}, {"a": 1}), (), ()), 0)
        self.same(steady(one, Offer(["a"], {"a": fare}, {"a": 1}), (), (("a", 0),)), 0)
        both = Offer(["a", "b"], {"a": fare, "b": fare}, {"a": None, "b": None})
        tied = Plans(["a", "b"], [(("a", 0), ("b", 0))])
        self.same(steady(tied, both, (), (("a", 0), ("b", 0))), 8)
        both = both.with_fare("b", [((None, 0), 1), ((1, None), 6)])
        self.same(steady(tied, both, (), (("a", 0), ("b", 0))), 6)

    def test_plain_look(self):
        chance, seen = random.Random(9), set()
        for plans, offer, priced, rows in some_cases(24):
            for floors in chance.sample(rows, 6):
                price = above(priced, floors)
                best = [plan for plan, worth in priced if worth == price and fits(floors, plan)]
                if price is None:
                    continue
                plan = chance.choice(best)
                chosen = cell_of(offer, plan)
                found = {cell_of(offer, other): worth for other, worth in priced if fits(floors, other)}
                bounds = [
                    (worth - price) // unlike(offer, chosen, cell) for cell, worth in found.items() if cell != chosen
                ]
                self.same(steady(plans, offer, floors, plan), least_of(bounds))
                seen.add(least_of(bounds))
                self.judge_pair(plans, offer, floors, plan)
        self.assertTrue({None, 0, 1} <= seen)

    def judge_pair(self, plans, offer, floors, plan):
        most, pair = steady(plans, offer, floors, plan), unsteady(plans, offer, floors, plan)
        self.same(pair is None, most is None)
        if pair is not None:
            dearer, cheaper = pair
            self.assertTrue(fits(floors, cheaper) and is_made(cheaper, plans.makers))
            self.assertLess(worth_of(dearer, cheaper), worth_of(dearer, plan))
            self.same(is_unsteady(plans, offer, floors, plan, most + 1, pair), True)
            self.same(is_unsteady(plans, offer, floors, plan, most, pair), False)
            self.same(is_unsteady(plans, offer, floors, plan, most + 7, pair), True)

    def test_all_dearer_offers(self):
        chance, seen = random.Random(10), set()
        for things, many in [("a", 8), ("ab", 14)]:
            for book in some_books(11, many, list(things), [-1, 0, 1], 2):
                plans = plans_of(book)
                offer = some_offer(chance, things, range(0, 4), (None, 0, 1, 2), (None, None, 0, 2), 2)
                window = range(-5, 9)
                priced = priced_plans(plans, offer, window)
                for floors in chance.sample(grid(things, [0, 2]), 2):
                    price = above(priced, floors)
                    fitting = [plan for plan, _ in priced if fits(floors, plan)]
                    if price is None or len(dearer_places(offer)) > 5:
                        continue
                    plan = [other for other in fitting if worth_of(offer, other) == price][0]
                    most = steady(plans, offer, floors, plan)
                    seen.add(most)
                    for number in range(3):
                        is_so = all(
                            worth_of(dearer, plan) <= min(worth_of(dearer, other) for other in fitting)
                            for dearer in dearer_offers(offer, number)
                        )
                        self.same(is_so, most is None or number <= most)
        self.assertTrue({None, 0, 1} <= seen)

    def test_unsteady_by_hand(self):
        dearer, cheaper = unsteady(PLANS, OFFER, (), BEST)
        self.same(dearer.fares["frame"], [((None, 10), 5), ((11, 20), 6), ((21, None), 8)])
        self.assertTrue(cheaper in PLANS and price_of(dearer, cheaper) == 9)
        self.same(unsteady(plans=PLANS, offer=OFFER, floors=(("frame", 21),), plan=(("frame", 30), ("roof", 32))), None)
        one, fare = Plans(["a"], [(("a", 0),)]), [((None, 0), 1), ((1, None), 9)]
        dearer, cheaper = unsteady(one, Offer(["a"], {"a": fare}, {"a": 1}), (), ())
        self.same((dearer.outs, dearer.fares["a"], price_of(dearer, cheaper)), ({"a": 2}, fare, 1))
        self.same(unsteady(one, Offer(["a"], {"a": EVER}, {"a": None}), (), (("a", 0),)), None)

    def test_is_unsteady_by_hand(self):
        offer = Offer(["a"], {"a": [((None, 0), 1), ((1, 4), None), ((5, 6), 3), ((7, None), 4)]}, {"a": 6})
        one, plan = Plans(["a"], [(("a", 0),)]), (("a", 0),)

        def judge(fare, out, cheaper, number, answer):
            thing = (Offer(["a"], {"a": fare}, {"a": out}), cheaper)
            self.same(is_unsteady(one, offer, (), plan, number, thing), answer)
            self.same(is_unsteady(plans=one, offer=offer, floors=(), plan=plan, number=number, thing=thing), answer)

        late, gap = [((5, 6), 3), ((7, None), 4)], ((1, 4), None)
        judge([((None, 0), 4), gap, *late], 6, (("a", 5),), 3, True)
        judge([((None, 0), 4), gap, *late], 6, (("a", 5),), 2, False)
        judge([((None, 0), 4), gap, *late], 6, (("a", 7),), 3, False)
        judge([((None, 0), 5), gap, *late], 6, (("a", 7),), 4, True)
        judge([((None, 0), 5), gap, ((5, None), 4)], 6, (("a", 9),), 4, True)
        judge([((None, 0), 5), gap, ((5, None), 4)], 7, (("a", 5),), 4, True)
        judge([((None, 0), 5), gap, ((5, None), 4)], 5, (("a", 5),), 4, False)
        judge([((None, 0), 7), gap, ((5, None), 4)], 6, (), 6, True)
        judge([((None, 0), 7), gap, ((5, None), 4)], None, (("a", 5),), 6, False)
        judge([((None, 0), 7), gap, ((5, None), 3)], 6, (("a", 5),), 6, False)
        judge([((None, 0), 7), gap, ((5, 6), 2), ((7, None), 4)], 6, (("a", 5),), 9, False)
        judge([((None, 0), 7), gap, ((5, 5), 4), ((6, 6), 3), ((7, None), 4)], 6, (("a", 6),), 9, False)
        judge([((None, -1), 7), ((0, 0), 6), gap, *late], 6, (("a", 5),), 9, False)
        judge([((None, 0), 7), ((1, 4), 9), *late], 6, (("a", 5),), 9, False)
        judge([((None, 4), None), *late], 6, (("a", 5),), 9, False)
        judge([((None, 0), 7), ((1, 3), None), ((4, 6), 3), ((7, None), 4)], 6, (("a", 5),), 9, False)
        judge([((None, 0), 7), gap, *late], 6, (("a", 3),), 9, False)
        judge([((None, 0), 7), gap, *late], 6, (("a", True),), 9, False)
        judge([((None, 0), 7), gap, *late], 6, (("b", 5),), 9, False)
        judge([((None, 0), 7), gap, *late], 6, [("a", 5)], 9, False)
        judge([((None, 0), 7), gap, *late], 6, None, 9, False)

    def test_no_pairs(self):
        dearer, cheaper = unsteady(PLANS, OFFER, (), BEST)
        for thing in any_values() + [
            None, (), (dearer,), [dearer, cheaper], (dearer, cheaper, 0), (cheaper, dearer), (OFFER, cheaper),
            (dearer, BEST), (dearer, (("frame", 14), ("roof", 15))), (AB_OFFER, cheaper), (None, cheaper),
            (dearer, None), dearer, (Offer(["frame"], {"frame": dearer.fares["frame"]}), cheaper),
        ]:
            self.same(is_unsteady(PLANS, OFFER, (), BEST, 99, thing), False)
        self.same(is_unsteady(PLANS, OFFER, (), BEST, 3, (dearer, cheaper)), True)
        self.same(is_unsteady(PLANS, OFFER, (("frame", 11),), BEST, 3, (dearer, cheaper)), False)
        self.same(is_unsteady(PLANS, OFFER, (), BEST, 0, (dearer, cheaper)), False)

    def test_wrong(self):
        not_so = [(value, NotSo(".")) for value in (
            (("a", 2),), (("a", 0), ("b", 0)), (("b", 0),), (("a", 3),), (("a", 10),),
        )]
        good = [AB, AB_OFFER, (), ()]
        for call in (steady, unsteady):
            self.judged(call, good, [NO_PLANS, NO_OFFERS_OF, NO_FLOORS, NO_FLOORS + not_so])
        wrong = [NO_PLANS, NO_OFFERS_OF, NO_FLOORS, NO_FLOORS + not_so, NO_COUNTS, []]
        self.judged(is_unsteady, good + [3, None], wrong)

    def test_not_so(self):
        for floors, plan in [
            ((("frame", 14),), BEST),
            ((), (("frame", 13), ("roof", 14))),
            ((), (("frame", 13),)),
            ((), ()),
            ((), (("frame", 10), ("roof", 12))),
            ((), (("frame", 21), ("roof", 30))),
            ((("frame", 21),), BEST),
        ]:
            for call, more in [(steady, ()), (unsteady, ()), (is_unsteady, (3, None)), (is_unsteady, (None, None))]:
                self.fails(NotSo("."), call, PLANS, OFFER, floors, plan, *more)
        nothing = Offer(["a"], {"a": NEVER}, {"a": None})
        self.fails(NotSo("."), steady, Plans(["a"], [(("a", 0),)]), nothing, (), ())
        self.fails(BadPlan("."), steady, PLANS, OFFER, None, None)


def dearer_places(offer):
    prices = [price for name in offer.things for _, price in offer.fares[name]] + list(offer.outs.values())
    return [price for price in prices if price is not None]


if __name__ == "__main__":
    unittest.main()
