"""Corners, prices above floors, papers, lower sets and blockers."""

import itertools
import random
import unittest

from cornerplans.corners import (
    blockers, cheapest, corners, fewest_rules, is_paper, limit_for, lower_set, paper, price_above,
)
from cornerplans.days import Box
from cornerplans.errors import BadNumber, BadOffer, BadPlan
from cornerplans.offers import Offer, offer_of, price_of
from cornerplans.plans import Plans, plans_of
from cornerplans.prices import Prices, Row
from cornerplans.strict import strictest
from cornerplans.words import Words
from tests.helper import (
    Case, any_values, fits, grid, is_inside, is_made, is_room, keeps, least_of, no_numbers, priced_plans, some_offer,
    worth_of,
)
from tests.test_cells import NO_PLANS, WINDOWS, small_plans
from tests.test_fares import EVER, FARE, NEVER
from tests.test_moments import WRONG
from tests.test_offers import NO_OFFERS
from tests.test_plans import BOOK

FAR = 10 ** 9
ROWS = [Row(Box("frame"), 8), Row(Box("frame", (None, 20)), 3), Row(Box("frame", (None, 10)), 5)]
ROOFS = [Row(Box("roof"), 9), Row(Box("roof", (None, 15)), 4)]
PLANS = plans_of(BOOK)
OFFER = offer_of(Words(["newest"]), Prices(ROWS + ROOFS), ["frame", "roof"], {"frame": None, "roof": None})
CORNERS = [
    (7, (("frame", 13), ("roof", 15))), (12, (("frame", 20), ("roof", 29))), (17, (("frame", None), ("roof", None))),
]
# The offers of other things than those of plans of a and b.
OTHERS = [(value, BadOffer(None)) for value in (
    OFFER, Offer(["a"], {"a": EVER}), Offer(["a", "c"], {"a": EVER, "c": EVER}),
    Offer(["a", "b", "c"], {"a": EVER, "b": EVER, "c": EVER}),
)]
NO_OFFERS_OF = NO_OFFERS + OTHERS
NO_FLOORS = [(value, BadPlan(".")) for value in WRONG + [(("c", 0),), (("a", 0), ("c", 0)), (("frame", 0),)]]
NO_NUMBERS = no_numbers(BadNumber("."))
AB = Plans(["a", "b"], [(("a", 0),), (("b", 0),)])
AB_OFFER = Offer(["a", "b"], {"a": FARE, "b": EVER})


def small_cases(seed, many, things, days=range(0, 5), outs=(None, 0, 1, 2)):
    """Plans, an offer, all their made plans with a price, and floors; of three things only some floors."""
    chance = random.Random(seed)
    for plans in small_plans(seed, many, things):
        offer = some_offer(chance, things, days, outs=outs)
        floors = grid(things, range(-1, 6))
        if len(things) > 2:
            floors = chance.sample(grid(things, range(0, 4)), 12)
        yield plans, offer, priced_plans(plans, offer, WINDOWS[len(things)]), floors


def some_cases(seed, outs=(None, 0, 1, 2)):
    """Small cases of one, two and three things."""
    for things, many, days in [("a", 8, range(0, 5)), ("ab", 22, range(0, 5)), ("abc", 5, range(0, 3))]:
        yield from small_cases(seed, many, things, days, outs)


def above(priced, floors):
    """A plain look at the least price of the plans that meet floors."""
    return least_of([price for plan, price in priced if fits(floors, plan)])


class Corners(Case):
    def test_by_hand(self):
        self.same(corners(PLANS, OFFER), CORNERS)
        self.same(corners(plans=PLANS, offer=OFFER), CORNERS)
        self.same(corners(AB, AB_OFFER), [(0, (("a", 9),)), (5, (("a", 9), ("b", None))), (7, (("a", None),)), (
            12, (("a", None), ("b", None)),
        )])

    def test_none(self):
        must = {"a": None, "b": None}
        for plans, offer in [
            (Plans(["a"]), Offer(["a"], {"a": EVER}, {"a": None})),
            (Plans(["a"], [(("a", 0),)]), Offer(["a"], {"a": NEVER}, {"a": None})),
            (Plans(["a", "b"], [(("a", 0),)]), Offer(["a", "b"], {"a": EVER, "b": EVER}, must)),
        ]:
            self.same(corners(plans, offer), [])
            self.same(price_above(plans, offer, ()), None)
            self.same(cheapest(plans, offer, ()), None)
        self.same(corners(Plans(["a"]), Offer(["a"], {"a": EVER}, {"a": 3})), [(3, ())])

    def test_equal_ones_and_same_prices(self):
        fare = [((None, 2), 4), ((3, 3), 5), ((4, 9), 4), ((10, None), 5)]
        self.same(corners(Plans(["a"], [(("a", 0),)]), Offer(["a"], {"a": fare}, {"a": 4})), [
            (4, (("a", 9),)), (5, (("a", None),)),
        ])
        self.same(corners(AB, Offer(["a", "b"], {"a": EVER, "b": EVER})), [
            (0, ()), (5, (("a", None),)), (5, (("b", None),)), (10, (("a", None), ("b", None))),
        ])

    def test_none_stands_behind_all_numbers(self):
        plans = Plans(["a", "b"], [(("a", 0), ("b", 0))])
        fare = [((None, FAR), 1), ((FAR + 1, None), 2)]
        self.same(corners(plans, Offer(["a", "b"], {"a": fare, "b": fare}, {"a": None, "b": None})), [
            (2, (("a", FAR), ("b", FAR))), (4, (("a", None), ("b", None))),
        ])
        rising, falling = [((None, 7), 1), ((8, None), 2)], [((None, 7), 2), ((8, None), 1)]
        must = {"a": None, "b": None}
        offer = Offer(["a", "b"], {"a": rising, "b": falling}, must)
        self.same(corners(AB, offer), [(2, (("a", 7), ("b", None))), (3, (("a", None), ("b", None)))])
        offer = Offer(["a", "b"], {"a": rising, "b": rising}, must)
        self.same(corners(AB, offer)[1:3], [(3, (("a", 7), ("b", None))), (3, (("a", None), ("b", 7)))])

    def test_plain_look(self):
        for plans, offer, priced, rows in some_cases(1):
            pairs = corners(plans, offer)
            for (price, limit), (worth, end) in itertools.permutations(pairs, 2):
                self.assertFalse(is_room(limit, end) and worth <= price)
            for floors in rows:
                fitting = [price for price, limit in pairs if is_room(floors, limit)]
                self.same(least_of(fitting), above(priced, floors))
            self.assertEqual(pairs, sorted(pairs, key=lambda pair: (pair[0], end_key(pair[1]))))

    def test_far_moments(self):
        fare = [((None, -FAR), 10 ** 12), ((1 - FAR, FAR), 1), ((FAR + 1, None), 10 ** 12 + 1)]
        plans = Plans(["a", "b"], [(("a", 2 * FAR), ("b", 0))])
        offer = Offer(["a", "b"], {"a": fare, "b": EVER}, {"a": None, "b": None})
        self.same(corners(plans, offer), [(6, (("a", FAR), ("b", -FAR))), (10 ** 12 + 6, (("a", None), ("b", None)))])

    def test_wrong(self):
        self.judged(corners, [AB, AB_OFFER], [NO_PLANS, NO_OFFERS_OF])


class Above(Case):
    def test_by_hand(self):
        for floors, price in [
            ((), 7), ((("frame", 13),), 7), ((("frame", 14),), 12), ((("roof", 16),), 12), ((("frame", 21),), 17),
            ((("frame", FAR), ("roof", -FAR)), 17), ((("frame", -FAR),), 7), ((("roof", 30),), 17),
        ]:
            self.same(price_above(PLANS, OFFER, floors), price)
            self.same(price_above(plans=PLANS, offer=OFFER, floors=floors), price)

    def test_plain_look(self):
        for plans, offer, priced, rows in some_cases(2):
            for floors in rows:
                price = above(priced, floors)
                self.same(price_above(plans, offer, floors), price)
                plan = cheapest(plans, offer, floors)
                if price is None:
                    self.same(plan, None)
                else:
                    self.assertTrue(fits(floors, plan) and is_made(plan, plans.makers))
                    self.same(worth_of(offer, plan), price)

    def test_cheapest_far(self):
        for floors in [
            (), (("frame", FAR),), (("frame", FAR), ("roof", -FAR)), (("roof", -FAR),), (("roof", 10 ** 12),),
        ]:
            plan = cheapest(plans=PLANS, offer=OFFER, floors=floors)
            self.assertTrue(plan in PLANS and fits(floors, plan))
            self.same(price_of(OFFER, plan), price_above(PLANS, OFFER, floors))

    def test_limit_for(self):
        for price, floors, limit in [
            (7, (), CORNERS[0][1]), (6, (), None), (11, (("frame", 14),), None), (12, (("frame", 14),), CORNERS[1][1]),
            (99, (), CORNERS[0][1]), (99, (("roof", 30),), CORNERS[2][1]), (17, (("roof", FAR),), CORNERS[2][1]),
        ]:
            self.same(limit_for(PLANS, OFFER, price, floors), limit)
            self.same(limit_for(plans=PLANS, offer=OFFER, price=price, floors=floors), limit)
        for plans, offer, priced, rows in small_cases(3, 12, "ab"):
            pairs = corners(plans, offer)
            for floors, price in itertools.product(rows[::4], range(-1, 8)):
                limits = [limit for worth, limit in pairs if worth <= price and is_room(floors, limit)]
                self.same(limit_for(plans, offer, price, floors), limits[0] if limits else None)
                self.same(limits != [], any(fits(floors, plan) and worth <= price for plan, worth in priced))

    def test_wrong(self):
        for call in (price_above, cheapest):
            self.judged(call, [AB, AB_OFFER, ()], [NO_PLANS, NO_OFFERS_OF, NO_FLOORS])
        self.judged(limit_for, [AB, AB_OFFER, 0, ()], [NO_PLANS, NO_OFFERS_OF, NO_NUMBERS, NO_FLOORS])


FIRST, SECOND = ((("frame", 0),), (("roof", -2),)), ((("roof", 0),), (("frame", 9),))
BEST = (("frame", 14), ("roof", 16))


class Papers(Case):
    def judge(self, thing, answer, floors=(("frame", 14),)):
        self.assertIs(is_paper(PLANS, OFFER, floors, thing), answer)
        self.assertIs(is_paper(plans=PLANS, offer=OFFER, floors=floors, thing=thing), answer)

    def test_by_hand(self):
        self.judge((BEST, [FIRST]), True)
        self.judge((BEST, (FIRST,)), True)
        self.judge((BEST, [FIRST, SECOND, FIRST]), True)
        self.judge((BEST, [SECOND, FIRST]), True)
        self.judge((BEST, []), False)
        self.judge((BEST, [SECOND]), False)
        self.judge(([*BEST], [FIRST]), False)
        self.judge([BEST, [FIRST]], False)
        self.judge((BEST, [FIRST], None), False)
        self.judge((BEST, FIRST), False)
        self.judge((BEST, [list(FIRST)]), False)
        self.judge((None, [FIRST]), False)
        self.judge(((("frame", 13), ("roof", 15)), [FIRST]), False)
        self.judge(((("frame", 14), ("roof", 15)), [FIRST]), False)
        self.judge(((("frame", 14),), [FIRST]), False)
        self.judge(((("frame", True), ("roof", 16)), [FIRST]), False)
        self.judge(((("frame", 15), ("roof", 17)), [FIRST]), True)
        self.judge(((("frame", 22), ("roof", 25)), [FIRST]), False)
        self.judge((BEST, [FIRST, ((("frame", 0),), (("roof", -3),))]), False)
        self.judge((BEST, [FIRST, ((("frame", 0),), (("room", 0),))]), False)
        self.judge(((("frame", 13), ("roof", 15)), []), True, ())
        for value in any_values() + [None, (), [], (None, None), (None, []), (BEST, None), (BEST, {}), (BEST, True)]:
            self.judge(value, False)

    def test_rules_that_hold_but_are_not_strictest(self):
        # Weaker ones, ones with two things at the left, and ones with a thing on both sides.
        self.judge((BEST, [((("frame", 0),), (("roof", -1),))]), False)
        self.judge((BEST, [((("frame", 0), ("roof", -2)), (("roof", -2),))]), True)
        self.judge((BEST, [((("frame", 0), ("roof", -3)), (("roof", -2),))]), True)
        self.judge((BEST, [((("frame", 5),), (("roof", 3),))]), True)
        self.judge(((("frame", 20), ("roof", 22)), [((("frame", 0),), (("roof", -1),))]), True, (("frame", 15),))
        self.judge(((("frame", 20), ("roof", 22)), [((("frame", 0),), (("roof", 0),))]), False, (("frame", 15),))
        self.judge(((("frame", 20), ("roof", 22)), [((("frame", 0),), (("frame", 0),))]), False, (("frame", 15),))
        self.judge((BEST, [((), ()), FIRST]), True)

    def test_no_price_at_all(self):
        plans = Plans(["a", "b"], [(("a", 0), ("b", 0)), (("b", 0),)])
        offer = Offer(["a", "b"], {"a": EVER, "b": EVER}, {"a": None, "b": 0})
        floors = (("a", 0),)
        self.same(is_paper(plans, offer, floors, ((("a", 0), ("b", 0)), [((("a", 0),), (("b", 0),))])), True)
        offer = Offer(["a", "b"], {"a": EVER, "b": NEVER}, {"a": None, "b": 0})
        rule = ((("a", 0),), (("b", 0),))
        self.same(is_paper(plans, offer, (), (None, [rule])), True)
        self.same(is_paper(plans, offer, (), (None, [])), False)
        self.same(is_paper(plans, offer, (), ((("a", 0), ("b", 0)), [rule])), False)
        self.same(is_paper(plans, offer, (("b", 0),), (None, [])), True)
        self.same(paper(plans, offer, ()), (None, [rule]))
        self.same(fewest_rules(plans, offer, ()), 1)
        self.same(fewest_rules(plans, offer, (("b", 0),)), 0)

    def test_papers_are_accepted(self):
        for plans, offer, priced, rows in some_cases(4):
            rules = strictest(plans)
            for floors in rows[::3]:
                told = paper(plans, offer, floors)
                self.assertIsInstance(told[1], list)
                self.assertTrue(all(rule in rules for rule in told[1]))
                self.assertIs(is_paper(plans, offer, floors, told), True)
                price = above(priced, floors)
                self.same(told[0] is None, price is None)
                if price is not None:
                    self.same(price_of(offer, told[0]), price)
        self.assertTrue(is_paper(PLANS, OFFER, (), paper(plans=PLANS, offer=OFFER, floors=())))

    def test_plain_look_at_papers(self):
        chance = random.Random(5)
        for plans, offer, priced, rows in small_cases(6, 25, "ab"):
            makers, some = plans.makers, grid("ab", range(-1, 2))
            rules = strictest(plans) + [(chance.choice(some), chance.choice(some)) for _ in range(6)]
            everything = [(plan, worth_of(offer, plan)) for plan in grid("ab", WINDOWS[2])]
            for floors in chance.sample(rows, 5):
                plan, lot = chance.choice(priced + [(None, 0)])[0], chance.sample(rules, min(2, len(rules)))
                best = cheapest(plans, offer, floors)
                for thing in [(plan, lot), (best, lot), (best, strictest(plans)[:2]), (best, [])]:
                    answer = is_paper_by_hand(makers, offer, floors, thing, everything)
                    self.same(is_paper(plans, offer, floors, thing), answer)

    def test_fewest_rules(self):
        self.same(fewest_rules(PLANS, OFFER, ()), 0)
        self.same(fewest_rules(plans=PLANS, offer=OFFER, floors=(("frame", 14),)), 1)
        self.same(fewest_rules(PLANS, OFFER, (("frame", 14), ("roof", 0))), 1)
        counts = set()
        for plans, offer, _, rows in some_cases(7, (2, 3, 4)):
            rules = strictest(plans)
            for floors in rows[::4] if len(rules) < 9 else []:
                plan, many = cheapest(plans, offer, floors), fewest_rules(plans, offer, floors)
                counts.add(many)
                for size in range(many + 1):
                    lots = itertools.combinations(rules, size)
                    self.same(any(is_paper(plans, offer, floors, (plan, list(lot))) for lot in lots), size == many)
        self.assertTrue({0, 1, 2} <= counts)

    def test_fewest_of_many_rules(self):
        # Each of the four things needs another one that can never come, and the cells with it are cheap.
        things = list("abcd")
        offer = Offer(things, {name: [((None, None), 1)] for name in things}, {name: 2 for name in things})
        self.same(fewest_rules(Plans(things), offer, ()), 4)
        self.same(len(paper(Plans(things), offer, ())[1]), 4)

    def test_new_lists(self):
        paper(PLANS, OFFER, (("frame", 14),))[1].clear()
        self.same(paper(PLANS, OFFER, (("frame", 14),))[1], [FIRST])

    def test_wrong(self):
        for call in (paper, fewest_rules):
            self.judged(call, [AB, AB_OFFER, ()], [NO_PLANS, NO_OFFERS_OF, NO_FLOORS])
        self.judged(is_paper, [AB, AB_OFFER, (), None], [NO_PLANS, NO_OFFERS_OF, NO_FLOORS, []])


def is_paper_by_hand(makers, offer, floors, thing, everything):
    """A plain look: all plans that meet floors and are cheaper are looked at, cell by cell."""
    plan, rules = thing
    if not all(keeps(maker, rule) for rule in rules for maker in makers):
        return False
    price = None
    if plan is not None:
        price = worth_of(offer, plan)
        if price is None or not fits(floors, plan) or not is_made(plan, makers):
            return False
    kept = {}
    for other, worth in everything:
        if worth is not None and (price is None or worth < price) and fits(floors, other):
            signs = kept.setdefault(cell_of(offer, other), set(range(len(rules))))
            signs -= {at for at in signs if keeps(other, rules[at])}
    return all(signs for signs in kept.values())


def cell_of(offer, plan):
    """The cell in which a plan is."""
    fares = offer.fares
    return tuple((name, [days for days, _ in fares[name] if is_inside(moment, days)][0]) for name, moment in plan)


class LowerSets(Case):
    def test_by_hand(self):
        for number, limits, starts in [
            (6, [], [()]),
            (7, [CORNERS[0][1]], [(("frame", 14),), (("roof", 16),)]),
            (12, [CORNERS[1][1]], [(("frame", 21),), (("roof", 30),)]),
            (17, [CORNERS[2][1]], []),
            (FAR, [CORNERS[2][1]], []),
            (-FAR, [], [()]),
        ]:
            self.same(lower_set(PLANS, OFFER, number), limits)
            self.same(lower_set(plans=PLANS, offer=OFFER, number=number), limits)
            self.same(blockers(PLANS, OFFER, number), starts)
            self.same(blockers(plans=PLANS, offer=OFFER, number=number), starts)

    def test_things_that_need_not_come(self):
        self.same(lower_set(AB, AB_OFFER, 0), [(("a", 9),)])
        self.same(blockers(AB, AB_OFFER, 0), [(("a", 10),), (("b", None),)])
        self.same(lower_set(AB, AB_OFFER, 7), [(("a", 9), ("b", None)), (("a", None),)])
        self.same(blockers(AB, AB_OFFER, 7), [(("a", 10), ("b", None))])
        self.same(blockers(AB, AB_OFFER, 12), [])
        plans = Plans(["a", "b"], [(("a", 0),)])
        self.same(blockers(plans, AB_OFFER, 0), [(("a", 10),), (("b", None),)])
        self.same(blockers(plans, AB_OFFER, 99), [(("b", None),)])
        self.same(blockers(Plans(["a", "b"]), AB_OFFER, 99), [(("a", None),), (("b", None),)])
        self.same(lower_set(Plans(["a", "b"]), AB_OFFER, 99), [()])

    def test_far_moments(self):
        late, early = [((None, FAR), 0), ((FAR + 1, None), 2)], [((None, -FAR), 0), ((1 - FAR, None), 2)]
        offer = Offer(["a", "b"], {"a": late, "b": early})
        self.same(lower_set(AB, offer, 1), [(("a", FAR), ("b", -FAR))])
        self.same(blockers(AB, offer, 1), [(("a", FAR + 1),), (("b", 1 - FAR),)])
        self.same(blockers(AB, offer, 2), [(("a", FAR + 1), ("b", 1 - FAR))])

    def test_plain_look(self):
        for plans, offer, priced, rows in some_cases(8):
            for number in range(-1, 7):
                limits, starts = lower_set(plans, offer, number), blockers(plans, offer, number)
                for one, other in itertools.permutations(limits, 2):
                    self.assertFalse(is_room(one, other))
                for one, other in itertools.permutations(starts, 2):
                    self.assertFalse(is_behind(one, other))
                self.assertEqual(limits, sorted(limits, key=end_key))
                self.assertEqual(starts, sorted(starts, key=first_key))
                for floors in rows:
                    price = above(priced, floors)
                    self.same(any(is_room(floors, limit) for limit in limits), price is not None and price <= number)
                    self.same(any(is_behind(floors, start) for start in starts), price is None or price > number)

    def test_each_blocker_is_needed(self):
        for plans, offer, _, _ in small_cases(9, 15, "ab"):
            for number in range(0, 6):
                starts = blockers(plans, offer, number)
                for at, start in enumerate(starts):
                    floors = tuple((name, -FAR if first is None else first) for name, first in start)
                    self.assertFalse(any(is_behind(floors, other) for other in starts[:at] + starts[at + 1:]))
                    price = price_above(plans, offer, floors)
                    self.assertTrue(price is None or price > number)

    def test_new_lists(self):
        lower_set(PLANS, OFFER, 7).clear()
        blockers(PLANS, OFFER, 7).clear()
        self.same((len(lower_set(PLANS, OFFER, 7)), len(blockers(PLANS, OFFER, 7))), (1, 2))

    def test_wrong(self):
        for call in (lower_set, blockers):
            self.judged(call, [AB, AB_OFFER, 0], [NO_PLANS, NO_OFFERS_OF, NO_NUMBERS])


def is_behind(floors, start):
    """A plain look: each thing of a start comes in floors, or in another start, no sooner."""
    moments = dict(floors)
    return all(
        name in moments and (first is None or (moments[name] is not None and moments[name] >= first))
        for name, first in start
    )


def end_key(limit):
    return [(name, (end is None, end or 0)) for name, end in limit]


def first_key(start):
    return [(name, (first is not None, first or 0)) for name, first in start]


if __name__ == "__main__":
    unittest.main()
