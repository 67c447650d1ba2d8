"""Latest plans, cells of offers, and which cells are barred."""

import itertools
import random
import unittest

from cornerplans.cells import cell_bar, cell_price, cells, ends, latest, latest_in
from cornerplans.errors import BadCell, BadLimit, BadOffer, NoPlans
from cornerplans.moments import is_within
from cornerplans.offers import Offer
from cornerplans.plans import Plans, plans_of
from cornerplans.strict import strictest
from tests.helper import (
    Case, any_values, fits, grid, is_inside, is_made, keeps, others_than, some_books, some_made, some_offer, worth_of,
)
from tests.test_fares import EVER, NEVER
from tests.test_moments import NEARLY
from tests.test_offers import NO_OFFERS
from tests.test_plans import BOOK

FAR = 10 ** 9
NO_PLANS = others_than(Plans, NoPlans("."))
NO_LIMITS = [(value, BadLimit(".")) for value in NEARLY + any_values() + [
    (("c", None),), (("a", 0), ("c", 0)), ("a", None),
]]
A_FARE = [((None, 2), 4), ((3, 3), None), ((4, 9), 0), ((10, None), 7)]
B_FARE = [((None, 0), 1), ((1, None), None)]
OFFER = Offer(["a", "b"], {"a": A_FARE, "b": B_FARE}, {"a": None, "b": 6})
CELLS = [
    (("a", (None, 2)),),
    (("a", (None, 2)), ("b", (None, 0))),
    (("a", (4, 9)),),
    (("a", (4, 9)), ("b", (None, 0))),
    (("a", (10, None)),),
    (("a", (10, None)), ("b", (None, 0))),
]
NO_CELLS = [(value, BadCell(".")) for value in any_values() + [
    (), [], {}, [("a", (4, 9))], (["a", (4, 9)],), (("a", [4, 9]),), (("a", (3, 3)),), (("a", (4, 8)),),
    (("a", (4, None)),),
    (("a", (None, None)),), (("a", None),), (("a", 4),), (("b", (None, 0)),), (("b", (None, 0)), ("a", (4, 9))),
    (("a", (4, 9)), ("a", (4, 9))), (("a", (4, 9)), ("c", (None, 0))), (("a", (4, 9)), ("b", (1, None))),
    (("a", (4, 9)), ("b", (None, False))), (("a", (4, 9)), ("b", (None, 0), 1)), (("a", (4, 9), 0),), ((4, 9),),
    (("a", (4, 9)), None), ("a", (4, 9)), (("a", (9, 4)),), (("a", (None, 2)), ("a", (4, 9))), {"a": (4, 9)},
]]
# Moments of a grid that go beyond all days and waits of the small plans and offers that are looked at here.
WINDOWS = {1: range(-9, 14), 2: range(-6, 10), 3: range(-4, 7)}


def small_plans(seed, many, things):
    """Plans of books of rules and of plans by chance, none of them with great differences of moments."""
    chance = random.Random(seed)
    spread = 5 - len(things)
    books = some_books(seed, many, list(things), [-1, 0, 1], 4)
    plans = [plans_of(book) for book in books] + [some_made(chance, things, [0, 1, 2], 4) for _ in range(many)]
    return [part for part in plans if all(moment >= -spread for maker in part for _, moment in maker)]


def made_of(plans, window):
    return [plan for plan in grid(plans.things, window) if is_made(plan, plans.makers)]


def within_cell(plan, cell):
    """A plain look: whether a plan has just the things of a cell, each in its stretch."""
    if [name for name, _ in plan] != [name for name, _ in cell]:
        return False
    return all(is_inside(moment, stretch) for (_, moment), (_, stretch) in zip(plan, cell))


class Latest(Case):
    def test_by_hand(self):
        plans = plans_of(BOOK)
        for limit, answer in [
            ((), ()),
            ((("frame", 5),), ()),
            ((("roof", None),), ()),
            ((("frame", 5), ("roof", 9)), (("frame", 5), ("roof", 9))),
            ((("frame", 5), ("roof", 99)), (("frame", 5), ("roof", 14))),
            ((("frame", 5), ("roof", None)), (("frame", 5), ("roof", 14))),
            ((("frame", None), ("roof", 5)), (("frame", 3), ("roof", 5))),
            ((("frame", None), ("roof", None)), (("frame", None), ("roof", None))),
            ((("frame", FAR), ("roof", -FAR)), (("frame", -FAR - 2), ("roof", -FAR))),
        ]:
            self.same(latest(plans, limit), answer)
            self.same(latest(plans=plans, limit=limit), answer)

    def test_things_that_need_not_come_together(self):
        plans = Plans(["a", "b", "c"], [(("a", 0),), (("b", 0), ("c", -3)), (("a", 2), ("b", 0))])
        for limit, answer in [
            ((("a", None), ("b", 4)), (("a", None), ("b", 4))),
            ((("b", 4),), ()),
            ((("b", 4), ("c", None)), (("b", 4), ("c", 1))),
            ((("a", 1), ("b", None), ("c", None)), (("a", 1), ("b", None), ("c", None))),
            ((("a", 1), ("b", None), ("c", 7)), (("a", 1), ("b", 10), ("c", 7))),
            ((("a", 1), ("b", None)), (("a", 1), ("b", -1))),
        ]:
            self.same(latest(plans, limit), answer)
        self.same(latest(Plans(["a"]), (("a", None),)), ())

    def test_plain_look(self):
        chance = random.Random(1)
        for things, many, number in [("a", 6, 4), ("ab", 20, 12), ("abc", 6, 8)]:
            window = WINDOWS[len(things)]
            for plans in small_plans(2, many, things):
                made = made_of(plans, window)
                for limit in chance.sample(grid_of_limits(things, range(-1, 4)), number):
                    answer = latest(plans, limit)
                    rows = [plan for plan in made if is_within(plan, limit)]
                    sooner = [plan for plan in rows if all(moment < window[-1] for _, moment in plan)]
                    self.same(answer, tuple(
                        (name, None if last_in(rows, name) > last_in(sooner, name) else last_in(rows, name))
                        for name in things if any(name in dict(plan) for plan in sooner)
                    ))

    def test_fact(self):
        chance = random.Random(3)
        for things in ("ab", "abc", "abcd"):
            for _ in range(15):
                plans = some_made(chance, things, [0, 1, 5], 5)
                for limit in chance.sample(grid_of_limits(things, range(0, 3)), 6):
                    answer = latest(plans, limit)
                    self.assertTrue(is_within(answer, limit))
                    below = greatest_by_hand(plans, [(name, 50 if end is None else end) for name, end in answer])
                    self.same([name for name, _ in below], [name for name, _ in answer])
                    for (_, end), (_, moment) in zip(answer, below):
                        self.assertTrue(moment == end if end is not None else moment >= 40)

    def test_wrong(self):
        self.judged(latest, [Plans(["a", "b"]), ()], [NO_PLANS, NO_LIMITS])


def grid_of_limits(things, moments):
    """All limits of these things with these moments, and with no end."""
    rows = itertools.product(*[["out", None, *moments] for _ in things])
    return [tuple((name, at) for name, at in zip(things, row) if at != "out") for row in rows]


def last_in(plans, name):
    return max([dict(plan)[name] for plan in plans if name in dict(plan)], default=-FAR)


def greatest_by_hand(plans, plan):
    """A plain look at the makers, each put off as far as there is room within a plan."""
    ends, lasts = dict(plan), {}
    for maker in plans:
        if all(name in ends for name, _ in maker):
            room = min(ends[name] - moment for name, moment in maker)
            for name, moment in maker:
                lasts[name] = max(lasts.get(name, moment + room), moment + room)
    return tuple(sorted(lasts.items()))


class Cells(Case):
    def test_cells(self):
        self.same(cells(OFFER), CELLS)
        self.same(cells(offer=OFFER), CELLS)
        self.same(cells(Offer(["a"], {"a": EVER})), [(), (("a", (None, None)),)])
        self.same(cells(Offer(["a"], {"a": EVER}, {"a": None})), [(("a", (None, None)),)])
        self.same(cells(Offer(["a"], {"a": NEVER})), [()])
        self.same(cells(Offer(["a"], {"a": NEVER}, {"a": None})), [])
        self.same(cells(Offer(["a", "b"], {"a": NEVER, "b": EVER}, {"a": None, "b": 0})), [])

    def test_ascending(self):
        fare = [((None, -5), 1), ((-4, 0), 2), ((1, None), 3)]
        rows = cells(Offer(["a", "b"], {"a": fare, "b": fare}))
        firsts = [(None, -5), (-4, 0), (1, None)]
        one = [()] + [
            row for stretch in firsts
            for row in [(("a", stretch),)] + [(("a", stretch), ("b", other)) for other in firsts]
        ] + [(("b", stretch),) for stretch in firsts]
        self.same(rows, one)

    def test_all_of_them(self):
        chance = random.Random(4)
        for things in ("a", "ab", "abc", "abcd"):
            offer = some_offer(chance, things, range(0, 6), (None, 0, 1, 2), (None, 0, 3), 4)
            fares = offer.fares
            ways = [[None] + [stretch for stretch, _ in fares[name]] for name in things]
            rows = [tuple((name, way) for name, way in zip(things, row) if way) for row in itertools.product(*ways)]
            wanted = [row for row in rows if worth_of(offer, [(name, some_day(way)) for name, way in row]) is not None]
            told = cells(offer)
            self.assertEqual(len(told), len(wanted))
            self.assertTrue(all(row in told for row in wanted))
            for cell in told:
                self.same(cell_price(offer, cell), worth_of(offer, [(name, some_day(way)) for name, way in cell]))

    def test_cell_price_and_ends(self):
        prices = [10, 5, 6, 1, 13, 8]
        lasts = [
            (("a", 2),), (("a", 2), ("b", 0)), (("a", 9),), (("a", 9), ("b", 0)), (("a", None),),
            (("a", None), ("b", 0)),
        ]
        for cell, price, limit in zip(CELLS, prices, lasts):
            self.same(cell_price(OFFER, cell), price)
            self.same(cell_price(offer=OFFER, cell=cell), price)
            self.same(ends(OFFER, cell), limit)
            self.same(ends(offer=OFFER, cell=cell), limit)
        offer = Offer(["a"], {"a": EVER}, {"a": 3})
        self.same((cell_price(offer, ()), ends(offer, ())), (3, ()))

    def test_new_lists(self):
        cells(OFFER).clear()
        self.same(cells(OFFER), CELLS)

    def test_wrong(self):
        self.judged(cells, [OFFER], [NO_OFFERS])
        for call in (cell_price, ends):
            self.judged(call, [OFFER, CELLS[0]], [NO_OFFERS, NO_CELLS])
        other = Offer(["a"], {"a": EVER}, {"a": 3})
        other_plans = [(value, BadOffer(None)) for value in (other, Offer(["a", "c"], {"a": EVER, "c": EVER}))]
        for call in (latest_in, cell_bar):
            self.judged(call, [Plans(["a", "b"]), OFFER, CELLS[0]], [NO_PLANS, NO_OFFERS + other_plans, NO_CELLS])
        offer = Offer(["a"], {"a": [((None, 1), 2), ((2, None), 3)]})
        self.fails(BadCell("."), cell_price, offer, (("a", (None, True)),))


def some_day(stretch):
    first, last = stretch
    return last if first is None else first


class InCells(Case):
    def test_by_hand(self):
        plans = Plans(["a", "b"], [(("a", 0),), (("a", 4), ("b", 0))])
        for cell, limit in zip(CELLS, [
            (("a", 2),), (("a", 2), ("b", -2)), (("a", 9),), (("a", 9), ("b", 0)), (("a", None),),
            (("a", None), ("b", 0)),
        ]):
            self.same(latest_in(plans, OFFER, cell), limit)
            self.same(latest_in(plans=plans, offer=OFFER, cell=cell), limit)
            self.same(cell_bar(plans, OFFER, cell), None)
        plans = Plans(["a", "b"], [(("b", 0),), (("a", 4), ("b", 0))])
        rule = ((("a", 0),), (("b", 4),))
        for cell, limit in zip(CELLS, [None, (("a", 2), ("b", 0)), None, (("a", 4), ("b", 0)), None, None]):
            self.same(latest_in(plans, OFFER, cell), limit)
            self.same(cell_bar(plans, OFFER, cell), rule if limit is None else None)
            self.same(cell_bar(plans=plans, offer=OFFER, cell=cell), rule if limit is None else None)

    def test_far_moments(self):
        late, early = [((None, FAR), 1), ((FAR + 1, None), 2)], [((None, -FAR), 1), ((1 - FAR, None), None)]
        offer = Offer(["a", "b"], {"a": late, "b": early})
        plans = Plans(["a", "b"], [(("a", 2 * FAR), ("b", 0))])
        cell = (("a", (None, FAR)), ("b", (None, -FAR)))
        self.same(latest_in(plans, offer, cell), (("a", FAR), ("b", -FAR)))
        cell = (("a", (FAR + 1, None)), ("b", (None, -FAR)))
        self.same(latest_in(plans, offer, cell), None)
        self.same(cell_bar(plans, offer, cell), ((("a", 0),), (("b", 2 * FAR),)))

    def test_plain_look(self):
        chance = random.Random(5)
        for things, many in [("a", 10), ("ab", 25), ("abc", 5)]:
            window = WINDOWS[len(things)]
            for plans in small_plans(6, many, things):
                offer = some_offer(chance, things, range(0, 4), outs=(None, 0, 1))
                made, rules = made_of(plans, window), strictest(plans)
                for cell in cells(offer):
                    inside = [plan for plan in made if within_cell(plan, cell)]
                    limit = latest_in(plans, offer, cell)
                    self.same(limit is not None, inside != [])
                    if inside:
                        self.same(limit, latest(plans, ends(offer, cell)))
                        self.assertTrue(all(is_within(plan, limit) for plan in inside))
                        self.same(cell_bar(plans, offer, cell), None)
                    else:
                        rows = [plan for plan in grid(things, window) if within_cell(plan, cell)]
                        barring = [rule for rule in rules if not any(keeps(plan, rule) for plan in rows)]
                        self.same(cell_bar(plans, offer, cell), barring[0])

    def test_within_the_limit_a_made_plan_is_there(self):
        chance = random.Random(7)
        for plans in small_plans(8, 15, "ab"):
            offer = some_offer(chance, "ab", range(0, 4))
            made = made_of(plans, WINDOWS[2])
            for cell in cells(offer):
                limit = latest_in(plans, offer, cell)
                for floors in grid("ab", range(-1, 5)):
                    there = any(within_cell(plan, cell) and fits(floors, plan) for plan in made)
                    self.same(there, limit is not None and is_within(floors, limit))


if __name__ == "__main__":
    unittest.main()
