"""A house that goes on: deeds, what is left, blocks, copies."""

import random
import unittest

from cornerplans.corners import corners
from cornerplans.days import Box
from cornerplans.errors import (
    BadBook, BadNumber, BadOffer, BadRow, BadRule, BadThing, CornerError, NoRow, NoRule, NotNow, NothingDone, TooMany,
)
from cornerplans.house import House
from cornerplans.offers import Offer
from cornerplans.plans import Plans, plans_of
from cornerplans.prices import Prices, Row
from cornerplans.rules import Book
from cornerplans.words import Words
from tests.helper import (
    Case, any_values, fits, grid, is_made, keeps, least_of, no_numbers, others_than, some_side, worth_on,
)
from tests.test_asking import NO_WORDS, plain_left, plain_told
from tests.test_offers import NO_OUTS
from tests.test_plans import BOOK
from tests.test_rules import NO_INDEX

FAR = 10 ** 9
NEWEST = Words(["newest"])
MUST = {"frame": None, "roof": None}
ROWS = [
    Row(Box("frame"), 8), Row(Box("frame", (None, 20)), 3), Row(Box("frame", (None, 10)), 5), Row(Box("roof"), 9),
    Row(Box("roof", (None, 15)), 4),
]


def example(day=8):
    """The house of the document, with all its rows."""
    house = House(BOOK, NEWEST, MUST, day)
    for row in ROWS:
        house.put(row)
    return house


def shown(house):
    """All that a house tells of itself, by texts and plain values."""
    return (
        house.book.things, house.book.rules, house.words.words, house.outs, [parts(row) for row in house.prices.rows],
        house.today, house.done, house.paid, house.plans.makers, plain_log(house), house.least(), house.corners(),
        house.rest().fares, house.rest().outs, house.now(),
    )


def parts(row):
    return (row.box.work, row.box.days, row.price, row.rank)


def plain_log(house):
    return [tuple(parts(part) if isinstance(part, Row) else part for part in deed) for deed in house.log]


class Parts(Case):
    def test_at_first(self):
        for house in (
            House(BOOK, NEWEST, MUST, 8), House(day=8, outs={"roof": None, "frame": None}, words=NEWEST, book=BOOK),
        ):
            self.assertEqual((house.book, house.words, house.prices), (BOOK, NEWEST, Prices()))
            self.assertEqual(house.plans, plans_of(BOOK))
            self.same((house.outs, house.today, house.done, house.paid, house.log), (MUST, 8, {}, 0, []))
            self.same((house.least(), house.best(), house.corners(), house.now()), (None, None, [], ()))
        house = House(Book(["b", "a"]), Words())
        self.same((house.outs, list(house.outs), house.today), ({"a": 0, "b": 0}, ["a", "b"], 0))
        self.same((house.least(), house.best(), house.corners(), house.now()), (0, (), [(0, ())], ()))
        self.same(House(Book(["a"]), Words(), {"a": 10 ** 40}, -10 ** 40).least(), 10 ** 40)
        for name in ("book", "words", "outs", "prices", "today", "done", "paid", "plans", "log"):
            with self.assertRaises(AttributeError):
                setattr(house, name, ())

    def test_wrong(self):
        outs = [(value, BadOffer("outs")) for value in NO_OUTS if value is not None]
        self.judged(House, [Book(["a", "b"]), Words(), {"a": 1, "b": None}, 3], [
            others_than(Book, BadBook(None)), NO_WORDS, outs, no_numbers(BadNumber("."))])

    def test_what_is_passed_and_handed_out(self):
        outs = {"roof": None, "frame": 7}
        house = House(BOOK, NEWEST, outs, 8)
        outs["frame"] = None
        self.same(list(outs), ["roof", "frame"])
        house.outs.clear()
        house.done["frame"] = (1, 2)
        house.log.append(("undo",))
        house.corners().clear()
        house.rest().fares.clear()
        self.same((house.outs, house.done, house.log), ({"frame": 7, "roof": None}, {}, []))
        house = example(11)
        house.do("frame")
        house.done.clear()
        house.log.clear()
        self.same((house.done, len(house.log)), ({"frame": (11, 3)}, 6))

    def test_no_iterating(self):
        self.not_iterated(example())


class Deeds(Case):
    def refused(self, house, error, call, *given):
        """The deed is refused, and the house stands as it was."""
        ahead, copy = shown(house), house.copy()
        self.fails(error, call, *given)
        self.same(shown(house), ahead)
        self.assertEqual(house, copy)

    def test_rules(self):
        house = House(BOOK, NEWEST, MUST, 8)
        rule = ((("frame", 5),), (("roof", 0),))
        self.assertIsNone(house.add(rule))
        self.assertEqual((house.book, house.plans), (BOOK.with_rule(rule), plans_of(BOOK.with_rule(rule))))
        self.assertIsNone(house.strike(0))
        self.assertEqual((house.book, house.plans), (Book(BOOK.things, [BOOK[1], rule]), plans_of(house.book)))
        house.strike(at=1)
        house.add(rule=BOOK[0])
        self.same(house.log, [("add", rule), ("strike", 0), ("strike", 1), ("add", BOOK[0])])
        for value in any_values() + [None, (), ((), (("room", 0),)), [rule], list(rule)]:
            self.refused(house, BadRule("."), house.add, value)
        for at in NO_INDEX + [2, 3]:
            self.fails(NoRule(at), house.strike, at)
        self.refused(house, NoRule(2), house.strike, 2)
        for _ in range(10):
            house.add(rule)
        self.refused(house, TooMany(12), house.add, rule)
        self.refused(house, BadRule("."), house.add, None)

    def test_rows(self):
        house = House(BOOK, NEWEST, MUST, 8)
        self.assertIsNone(house.put(ROWS[1]))
        house.put(row=ROWS[3])
        self.assertEqual(house.prices, Prices([ROWS[1], ROWS[3]]))
        self.assertIsNone(house.end(0, 10))
        self.assertEqual(house.prices, Prices([Row(Box("frame", (None, 9)), 3), ROWS[3]]))
        house.end(day=-FAR, at=0)
        self.assertEqual(house.prices, Prices([Row(Box("frame", (None, -FAR - 1)), 3), ROWS[3]]))
        house.put(Row(Box("roof", (3, 3)), 1))
        house.end(2, 3)
        self.assertEqual(house.prices, Prices([Row(Box("frame", (None, -FAR - 1)), 3), ROWS[3]]))
        self.assertIsNone(house.take(0))
        house.put(ROWS[0])
        house.take(at=0)
        self.assertEqual(house.prices, Prices([ROWS[0]]))
        self.assertEqual(house.log, [
            ("put", ROWS[1]), ("put", ROWS[3]), ("end", 0, 10), ("end", 0, -FAR), ("put", Row(Box("roof", (3, 3)), 1)),
            ("end", 2, 3), ("take", 0), ("put", ROWS[0]), ("take", 0),
        ])
        for value in others_than(Row, None):
            self.fails(BadRow("row"), house.put, value[0])
        self.refused(house, BadRow("row"), house.put, None)
        for at in NO_INDEX + [1, 6]:
            self.fails(NoRow(at), house.take, at)
            self.fails(NoRow(at), house.end, at, 3)
            self.fails(NoRow(at), house.end, at, None)
        self.refused(house, NoRow(1), house.take, 1)
        self.refused(house, NoRow(1), house.end, 1, None)
        for value, error in no_numbers(BadNumber(".")):
            self.fails(error, house.end, 0, value)
        self.refused(house, BadNumber("."), house.end, 0, True)
        for _ in range(5):
            house.put(ROWS[2])
        self.refused(house, TooMany(6), house.put, ROWS[2])
        self.refused(house, BadRow("row"), house.put, Box())

    def test_plus(self):
        house = House(BOOK, NEWEST, MUST, 8)
        same = house
        house += ROWS[0]
        self.assertIs(house, same)
        self.assertEqual((house.prices, house.log), (Prices([ROWS[0]]), [("put", ROWS[0])]))
        for value in (None, Box(), [ROWS[0]], True):
            with self.assertRaises(BadRow) as caught:
                house += value
            self.same(caught.exception.part, "row")
            self.assertIs(house, same)
        for _ in range(5):
            house += ROWS[1]
        with self.assertRaises(TooMany) as caught:
            house += ROWS[1]
        self.same((caught.exception.most, len(house.prices)), (6, 6))

    def test_days(self):
        house = House(BOOK, NEWEST, MUST, 8)
        self.assertIsNone(house.pass_to(9))
        house.pass_to(day=FAR)
        self.same((house.today, house.log), (FAR, [("day", 9), ("day", FAR)]))
        for value, error in no_numbers(BadNumber(".")):
            self.fails(error, house.pass_to, value)
        for day in (FAR, FAR - 1, 9, 8, 0, -FAR):
            self.refused(house, NotNow("day"), house.pass_to, day)
        house.undo()
        self.refused(house, NotNow("day"), house.pass_to, 9)
        self.refused(house, BadNumber("."), house.pass_to, False)
        house.pass_to(10)
        self.same(house.today, 10)

    def test_doing(self):
        house = example()
        self.same(house.now(), ())
        self.assertIsNone(house.do("frame"))
        self.same((house.done, house.paid, house.least()), ({"frame": (8, 5)}, 5, 9))
        self.refused(house, NotNow("done"), house.do, "frame")
        house.pass_to(10)
        house.do(name="roof")
        self.same((house.done, house.paid, house.least(), list(house.done)), (
            {"frame": (8, 5), "roof": (10, 4)}, 9, 9, ["frame", "roof"]))
        self.same(house.log[5:], [("do", "frame"), ("day", 10), ("do", "roof")])
        for value in any_values() + [None, "room", ("frame",), ["frame"], "Frame"]:
            self.fails(BadThing(value), house.do, value)
        self.refused(house, BadThing("room"), house.do, "room")
        self.refused(house, NotNow("done"), house.do, "roof")

    def test_not_now(self):
        # No plan is left: the roof would come ahead of the frame, or later than 9 days behind it.
        house = example()
        self.refused(house, NotNow("plan"), house.do, "roof")
        house.do("frame")
        house.pass_to(9)
        self.refused(house, NotNow("plan"), house.do, "roof")
        house.pass_to(10)
        house.add(((("roof", 0),), ()))
        self.refused(house, NotNow("plan"), house.do, "roof")
        # No price, or none that is sure.
        house = House(Book(["a", "b"]), Words())
        self.refused(house, NotNow("price"), house.do, "a")
        house.put(Row(Box("a", (3, 5)), 1))
        self.refused(house, NotNow("price"), house.do, "a")
        house.pass_to(3)
        house.put(Row(Box(None, (3, 3)), 2))
        self.refused(house, NotNow("price"), house.do, "a")
        house.do("b")
        house.pass_to(4)
        house.do("a")
        self.same((house.done, house.paid, list(house.done)), ({"a": (4, 1), "b": (3, 2)}, 3, ["a", "b"]))
        # In the order told: done ahead of the price, the price ahead of the plan.
        house.take(0)
        house.pass_to(9)
        self.refused(house, NotNow("done"), house.do, "a")
        house = House(Book(["a"], [((("a", 0),), ())]), Words())
        self.refused(house, NotNow("price"), house.do, "a")
        house.put(Row(Box(), 1))
        self.refused(house, NotNow("plan"), house.do, "a")
        self.same((house.least(), house.now()), (0, ()))

    def test_undo(self):
        house = House(BOOK, NEWEST, MUST, 8)
        self.refused(house, NothingDone("."), house.undo)
        self.refused(house, NothingDone("."), house.moved)
        deeds = [
            lambda: house.add(((("frame", 5),), (("roof", 0),))),
            lambda: house.put(ROWS[1]), lambda: house.put(ROWS[3]), lambda: house.pass_to(11),
            lambda: house.do("frame"), lambda: house.end(0, 5), lambda: house.strike(1), lambda: house.take(0),
            lambda: house.add(((), ())), lambda: house.pass_to(20), lambda: house.do("roof"),
            lambda: house.end(0, -FAR),
        ]
        states = []
        for deed in deeds:
            states.append(shown(house))
            deed()
        behind = shown(house)
        for state in states[::-1]:
            self.assertIsNone(house.undo())
            self.same(shown(house), state)
        self.refused(house, NothingDone("."), house.undo)
        for deed in deeds:
            deed()
        self.same(shown(house), behind)
        house.undo()
        house.undo()
        house.put(ROWS[2])
        self.same(len(house.log), 11)

    def test_what_is_done_and_its_row_gone(self):
        house = example(11)
        house.do("frame")
        for _ in range(3):
            house.take(0)
        self.same((house.done, house.paid, house.least(), house.corners()), (
            {"frame": (11, 3)}, 3, 7, [(7, (("frame", 11), ("roof", 15))), (12, (("frame", 11), ("roof", 20)))]))
        house.put(Row(Box("frame"), 0))
        self.same((house.done, house.least(), house.rest().outs["frame"]), ({"frame": (11, 3)}, 7, None))
        house.pass_to(30)
        self.same((house.least(), house.best(), house.now()), (None, None, ()))
        house.strike(1)
        self.same((house.least(), house.now()), (12, ("roof",)))


class Left(Case):
    def test_the_example(self):
        house = example()
        self.same((house.least(), house.now()), (7, ()))
        house.pass_to(11)
        self.same(house.now(), ("frame",))
        house.do("frame")
        house.pass_to(16)
        self.same((house.moved(), house.paid, house.done), ((7, 12), 3, {"frame": (11, 3)}))
        self.same(house.now(), ("roof",))

    def test_rest(self):
        house = example(12)
        self.assertEqual(house.rest(), Offer(["frame", "roof"], {
            "frame": [((None, 11), None), ((12, 20), 3), ((21, None), 8)],
            "roof": [((None, 11), None), ((12, 15), 4), ((16, None), 9)],
        }, MUST))
        house.do("frame")
        house.pass_to(16)
        self.assertEqual(house.rest(), Offer(["frame", "roof"], {
            "frame": [((None, 11), None), ((12, 12), 3), ((13, None), None)],
            "roof": [((None, 15), None), ((16, None), 9)],
        }, MUST))
        self.same(house.corners(), [(12, (("frame", 12), ("roof", 21)))])
        # The least price counts where it is open.
        house = House(Book(["a"]), Words(), {"a": 4}, 0)
        house.put(Row(Box(), 3))
        house.put(Row(Box("a", (5, None)), 1))
        self.same(house.rest().fares["a"], [((None, -1), None), ((0, 4), 3), ((5, None), 1)])
        self.same((house.rest().outs, house.least(), house.best()[0][0]), ({"a": 4}, 1, "a"))
        house = House(Book(["a"]), Words(), {"a": 4}, 0)
        self.assertEqual(house.rest(), Offer(["a"], {"a": [((None, None), None)]}, {"a": 4}))

    def test_now(self):
        # What could be done, but at a greater price, and what need not be done at all, are left out.
        house = House(Book(["a", "b", "c", "d"]), NEWEST, {"a": None, "b": None, "c": 1, "d": 5})
        house.put(Row(Box(None, (None, 9)), 3))
        house.put(Row(Box("b", (4, 5)), 2))
        self.same((house.least(), house.now()), (9, ("a", "d")))
        house.pass_to(4)
        self.same((house.least(), house.now()), (9, ("a", "b", "d")))
        house.do("b")
        self.same((house.least(), house.now()), (9, ("a", "d")))
        house.do("d")
        house.pass_to(9)
        self.same((house.least(), house.now(), house.paid), (9, ("a",), 5))
        house.pass_to(10)
        self.same((house.least(), house.now(), house.moved()), (None, (), (9, None)))

    def test_moved(self):
        house = House(BOOK, NEWEST, MUST, 8)
        house.put(ROWS[0])
        self.same(house.moved(), (None, None))
        house.put(ROWS[3])
        self.same(house.moved(), (None, 17))
        house.put(ROWS[1])
        self.same(house.moved(), (17, 12))
        house.undo()
        self.same(house.moved(), (None, 17))


class Plain:
    """A plain house: its deeds are done one after the other from the beginning, and all near plans are looked at."""

    def __init__(self, book, words, outs, day):
        self.begin = (book, words, outs, day)
        self.deeds = []

    def stand(self):
        """The rules, rows, day and what is done behind all deeds."""
        book, words, outs, day = self.begin
        rules, rows, done = list(book.rules), [], {}
        for deed in self.deeds:
            if deed[0] == "add":
                rules.append(deed[1])
            elif deed[0] == "strike":
                rules.pop(deed[1])
            elif deed[0] == "put":
                rows.append(deed[1])
            elif deed[0] == "take":
                rows.pop(deed[1])
            elif deed[0] == "end":
                row = rows[deed[1]]
                first, last = row.box.days
                end = deed[2] - 1 if last is None else min(last, deed[2] - 1)
                gone = first is not None and end < first
                rows[deed[1]:deed[1] + 1] = [] if gone else [Row(Box(row.box.work, (first, end)), row.price, row.rank)]
            elif deed[0] == "day":
                day = deed[1]
            else:
                done[deed[1]] = (day, plain_told(words.words, rows, deed[1], day))
        return rules, rows, day, done

    def worth(self, name, moment):
        """What a thing costs on a day by what is left."""
        _, rows, day, done = self.stand()
        if name in done:
            return done[name][1] if moment == done[name][0] else None
        if moment < day:
            return None
        return least_of([rows[at].price for at in plain_left(self.begin[1].words, rows, name, moment)])

    def priced(self, window=range(-2, 16)):
        """All near plans with a price."""
        rules, rows, day, done = self.stand()
        book, _, outs, _ = self.begin
        worths = {(name, at): self.worth(name, at) for name in book.things for at in window}
        found = []
        for plan in grid(book.things, window):
            parts_of = [worths[pair] for pair in plan]
            came = [name for name, _ in plan]
            parts_of += [None if name in done else outs[name] for name in book.things if name not in came]
            if None not in parts_of and all(keeps(plan, rule) for rule in rules):
                found.append((plan, sum(parts_of)))
        return found

    def least(self):
        return least_of([price for _, price in self.priced()])

    def error_of(self, deed):
        """The error with which a deed is due to be refused, None if it is done."""
        rules, rows, day, done = self.stand()
        word, things = deed[0], self.begin[0].things
        if word == "add":
            return TooMany(12) if len(rules) == 12 else None
        if word == "strike":
            return None if deed[1] < len(rules) else NoRule(deed[1])
        if word == "put":
            return TooMany(6) if len(rows) == 6 else None
        if word in ("take", "end"):
            return None if deed[1] < len(rows) else NoRow(deed[1])
        if word == "day":
            return None if deed[1] > day else NotNow("day")
        if deed[1] not in things:
            return BadThing(deed[1])
        if deed[1] in done:
            return NotNow("done")
        if isinstance(plain_told(self.begin[1].words, rows, deed[1], day), str):
            return NotNow("price")
        behind = Plain(*self.begin)
        behind.deeds = [*self.deeds, deed]
        return NotNow("plan") if behind.least() is None else None


def some_deed(chance, things):
    """A deed by chance."""
    word = chance.choice(["add", "strike", "put", "put", "put", "end", "take", "day", "do", "do", "do", "undo"])
    if word == "add":
        return (word, (some_side(chance, things, [-1, 0, 1]), some_side(chance, things, [-1, 0, 1])))
    if word in ("strike", "take"):
        return (word, chance.randint(0, 2))
    if word == "put":
        days = chance.choice([(None, None), (None, 6), (2, None), (2, 5), (4, 9), (0, 3)])
        return (word, Row(Box(chance.choice([None, *things]), days), chance.randint(0, 4), chance.randint(0, 1)))
    if word == "end":
        return (word, chance.randint(0, 2), chance.randint(0, 7))
    if word == "day":
        return (word, chance.randint(0, 7))
    return (word,) if word == "undo" else (word, chance.choice([*things, *things, *things, "zz"]))


def call_of(house, deed):
    """The method of a house that does a deed, with its arguments."""
    names = {"day": house.pass_to, "do": house.do, "undo": house.undo, "end": house.end, "put": house.put,
             "take": house.take, "add": house.add, "strike": house.strike}
    return names[deed[0]], deed[1:]


def some_house(chance):
    things = list(chance.choice(["a", "ab", "ab"]))
    rules = [(some_side(chance, things, [-1, 0, 1]), some_side(chance, things, [-1, 0, 1])) for _ in range(
        chance.randint(0, 2))]
    words = Words(chance.choice([[], ["newest"], ["narrowest"], ["highest", "oldest"], ["cheapest"]]))
    outs = {name: chance.choice([None, None, 0, 2]) for name in things}
    return Book(things, rules), words, outs, chance.randint(-1, 1)


class PlainLook(Case):
    def test_deeds_by_chance(self):
        chance, seen = random.Random(1), set()
        for _ in range(60):
            begin = some_house(chance)
            house, plain = House(*begin), Plain(*begin)
            for _ in range(14):
                self.step(chance, house, plain, seen)
                self.judge(house, plain)
        wanted = {(word, None) for word in ("add", "strike", "put", "end", "take", "day", "do", "undo")}
        wanted |= {("do", "done"), ("do", "price"), ("do", "plan"), ("do", "zz"), ("day", "day")}
        wanted |= {("strike", 0), ("take", 0)}
        self.assertTrue(wanted <= seen, wanted - seen)

    def step(self, chance, house, plain, seen):
        """One deed by chance, done or refused."""
        deed = some_deed(chance, house.book.things)
        call, given = call_of(house, deed)
        if deed == ("undo",):
            error = None if plain.deeds else NothingDone(".")
        else:
            error = plain.error_of(deed)
        if error is not None:
            log = plain_log(house)
            self.fails(error, call, *given)
            self.same(plain_log(house), log)
            seen.add((deed[0], list(vars(error).values())[0] if vars(error) else "nothing"))
            return
        ahead = plain.least() if chance.random() < 0.3 else 0
        self.assertIsNone(call(*given))
        seen.add((deed[0], None))
        if deed == ("undo",):
            plain.deeds.pop()
        else:
            plain.deeds.append(deed)
            if ahead != 0:
                self.same(house.moved(), (ahead, plain.least()))

    def judge(self, house, plain):
        """The house tells what a plain look tells."""
        rules, rows, day, done = plain.stand()
        things, words = plain.begin[0].things, plain.begin[1]
        self.same((house.book.rules, house.today, house.done), (tuple(rules), day, {
            name: done[name] for name in sorted(done)}))
        self.same([parts(row) for row in house.prices.rows], [parts(row) for row in rows])
        self.assertEqual(house.log, plain.deeds)
        self.same(house.paid, sum(price for _, price in done.values()))
        rest, priced = house.rest(), plain.priced()
        for name in things:
            for at in range(-9, 20):
                self.same(worth_on(rest.fares[name], at), plain.worth(name, at))
            self.same(rest.outs[name], None if name in done else plain.begin[2][name])
        least = least_of([price for _, price in priced])
        self.same(house.least(), least)
        self.same(house.corners(), corners(plans_of(Book(things, rules)), rest))
        best = house.best()
        self.same(best is None, least is None)
        if best is not None:
            self.assertTrue(all(keeps(best, rule) for rule in rules) and is_made(best, house.plans.makers))
            self.same(sum(plain.worth(*pair) for pair in best) + sum(
                plain.begin[2][name] for name in things if name not in dict(best)), least)
        for price, limit in house.corners():
            floors = tuple((name, 11 if end is None else end) for name, end in limit)
            self.same(least_of([worth for plan, worth in priced if fits(floors, plan)]), price)
        could = []
        for name in things:
            behind = Plain(*plain.begin)
            behind.deeds = [*plain.deeds, ("do", name)]
            if plain.error_of(("do", name)) is None and behind.least() == least:
                could.append(name)
        self.same(house.now(), tuple(could))

    def test_facts(self):
        # The least price never falls by a later day, and stays by what could be done now.
        chance, seen = random.Random(2), set()
        for _ in range(40):
            house = House(*some_house(chance))
            for _ in range(25):
                call, given = call_of(house, some_deed(chance, house.book.things))
                price, now = house.least(), house.now()
                try:
                    call(*given)
                except CornerError:
                    self.same((house.least(), house.now()), (price, now))
                    continue
                if call == house.pass_to:
                    seen.add("day" if house.least() == price else "dearer")
                    self.assertTrue(house.least() is None or (price is not None and house.least() >= price))
                if call == house.do and given[0] in now:
                    seen.add("do")
                    self.same(house.least(), price)
        self.assertEqual(seen, {"day", "dearer", "do"})


class Stop(Exception):
    """An error that is none of the package."""


class Blocks(Case):
    def test_left_without_an_error(self):
        house = example(11)
        with house as held:
            self.assertIs(held, house)
            house.do("frame")
        self.same(house.done, {"frame": (11, 3)})
        self.same(house.tried(lambda same: same.pass_to(12)), None)
        self.same(house.tried(work=lambda same: (same is house, same.today)), (True, 12))
        self.assertEqual(house.tried(lambda same: same), house)
        house.undo()
        house.undo()
        self.same((house.done, house.today, len(house.log)), ({}, 11, 5))

    def test_left_by_errors(self):
        for error in (NotNow("x"), Stop(), BadRow("row"), KeyboardInterrupt(), ValueError("x")):
            house = example(11)
            ahead = shown(house)
            with self.assertRaises(type(error)) as caught:
                with house:
                    self.all_deeds(house)
                    raise error
            self.assertIs(caught.exception, error)
            self.same(shown(house), ahead)

            def work(same):
                self.all_deeds(same)
                raise error

            with self.assertRaises(type(error)) as caught:
                house.tried(work)
            self.assertIs(caught.exception, error)
            self.same(shown(house), ahead)
        with self.assertRaises(NotNow) as caught:
            house.tried(lambda same: (same.do("frame"), same.do("frame")))
        self.same((caught.exception.word, shown(house)), ("done", ahead))

    def all_deeds(self, house):
        house.do("frame")
        house.add(((), ()))
        house.strike(0)
        house += ROWS[0]
        house.end(0, 5)
        house.take(0)
        house.pass_to(house.today + 1)

    def test_nested(self):
        house = example(11)
        ahead = shown(house)
        with self.assertRaises(Stop):
            with house:
                house.do("frame")
                inner = shown(house)
                with self.assertRaises(Stop):
                    with house:
                        house.pass_to(12)
                        with house:
                            house.pass_to(13)
                        raise Stop()
                self.same(shown(house), inner)
                with house:
                    house.pass_to(14)
                self.same(house.today, 14)
                raise Stop()
        self.same(shown(house), ahead)
        self.same(house.tried(lambda one: one.tried(lambda other: other.today)), 11)
        with self.assertRaises(Stop):
            with house:
                with house:
                    house.pass_to(12)
                    raise Stop()
        self.same(shown(house), ahead)
        with house:
            with house:
                house.pass_to(12)
        self.same(house.today, 12)

    def test_undo_ahead_of_a_block(self):
        house = example(11)
        house.pass_to(12)
        ahead = shown(house)
        with self.assertRaises(Stop):
            with house:
                for _ in range(6):
                    house.undo()
                self.fails(NothingDone("."), house.undo)
                house.pass_to(40)
                raise Stop()
        self.same(shown(house), ahead)
        with house:
            house.undo()
            house.undo()
        self.same((house.today, len(house.prices)), (11, 4))
        house.undo()
        self.same(len(house.prices), 3)

    def test_a_house_is_not_in_a_block_behind_it(self):
        house = example(11)
        with house:
            house.pass_to(12)
        with self.assertRaises(Stop):
            with house:
                house.pass_to(13)
                raise Stop()
        self.same(house.today, 12)


class Copies(Case):
    def test_copy(self):
        house = example(11)
        copy = house.copy()
        self.assertEqual(copy, house)
        self.assertIsNot(copy, house)
        self.same(shown(copy), shown(house))
        copy.do("frame")
        house.pass_to(13)
        self.same((house.done, house.today, copy.done, copy.today), ({}, 13, {"frame": (11, 3)}, 11))
        copy.undo()
        copy.undo()
        self.same((len(copy.prices), len(house.prices)), (4, 5))
        house.undo()
        house.undo()
        self.assertEqual(copy, house)

    def test_copy_within_a_block(self):
        house = example(11)
        with self.assertRaises(Stop):
            with house:
                house.do("frame")
                copy = house.copy()
                with copy:
                    copy.pass_to(12)
                raise Stop()
        self.same((house.done, copy.done, copy.today), ({}, {"frame": (11, 3)}, 12))
        with house:
            house.pass_to(12)
            copy = house.copy()
        with self.assertRaises(Stop):
            with copy:
                copy.pass_to(13)
                raise Stop()
        self.same((copy.today, house.today), (12, 12))

    def test_equality(self):
        house, other = example(), example()
        self.assertTrue(house == other)
        self.assertFalse(house != other)
        house.pass_to(9)
        self.assertTrue(house != other)
        self.assertFalse(house == other)
        house.undo()
        self.assertTrue(house == other)
        house.take(4)
        house.put(ROWS[4])
        self.assertEqual(house.prices, other.prices)
        self.assertTrue(house != other)
        begun = House(BOOK, NEWEST, MUST, 8)
        for different in (
            House(BOOK.some((0,)), NEWEST, MUST, 8), House(BOOK, Words(["oldest"]), MUST, 8),
            House(BOOK, NEWEST, None, 8), House(BOOK, NEWEST, {"frame": None, "roof": 0}, 8),
            House(BOOK, NEWEST, MUST, 9), House(BOOK, NEWEST, MUST),
        ):
            self.assertTrue(begun != different)
            self.assertFalse(begun == different)
        # The same book at last, but another one at first.
        one = House(BOOK.some((0,)), NEWEST, MUST, 8)
        one.add(BOOK[1])
        self.assertEqual(one.book, BOOK)
        self.assertTrue(one != begun)
        two = House(BOOK, NEWEST, MUST, 7)
        two.pass_to(8)
        self.assertTrue(two != begun)
        self.assertEqual(House(BOOK, NEWEST, None, 8), House(BOOK, NEWEST, {"roof": 0, "frame": 0}, 8))
        self.unequal_to_others(begun)

    def test_sixty_deeds(self):
        house = House(Book(["a"]), Words())
        for day in range(1, 61):
            house.pass_to(day)
        self.same((len(house.log), house.today), (60, 60))
        for _ in range(60):
            house.undo()
        self.same((house.log, house.today), ([], 0))


class Sizes(Case):
    def test_four_things(self):
        things = list("abcd")
        chain = [(((one, 1),), ((other, 0),)) for one, other in zip(things, things[1:])]
        house = House(Book(things, chain), Words(["cheapest"]), {name: None for name in things})
        for first, last in [(0, 9), (5, 20), (12, None)]:
            house.put(Row(Box(None, (first, last)), first))
        self.same((house.least(), house.now()), (0, ("a",)))
        for name in things:
            self.same(house.now(), (name,))
            house.do(name)
            house.pass_to(house.today + 1)
        self.same((house.paid, house.least(), house.now(), house.best()), (
            0, 0, (), tuple((name, at) for at, name in enumerate(things))))

    def test_plans_and_words_are_those_of_the_book(self):
        house = House(Book(["a", "b"]), Words(["newest", "oldest"]))
        self.assertIsInstance(house.plans, Plans)
        self.same(house.words.words, ("newest", "oldest"))
        self.same(list(house.plans), [(("a", 0),), (("b", 0),)])


if __name__ == "__main__":
    unittest.main()
