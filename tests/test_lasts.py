"""Last days: least prices within limits, and how they fall as the last day grows."""

import random
import unittest

from cornerplans.errors import BadLimit
from cornerplans.lasts import price_within, staircase, within_price
from cornerplans.offers import Offer
from cornerplans.plans import Plans
from tests.helper import Case, fits, is_room, least_of
from tests.test_cells import NO_LIMITS, NO_PLANS, WINDOWS, grid_of_limits
from tests.test_corners import (
    AB, AB_OFFER, FAR, NO_FLOORS, NO_NUMBERS, NO_OFFERS_OF, OFFER, PLANS, above, some_cases,
)
from tests.test_fares import EVER, NEVER

ENDLESS = (("frame", None), ("roof", None))


class Within(Case):
    def test_by_hand(self):
        for floors, limit, price in [
            ((), ENDLESS, 7),
            ((("frame", 14),), ENDLESS, 12),
            ((("frame", 14),), (("frame", None), ("roof", 15)), None),
            ((("frame", 14),), (("frame", 13), ("roof", None)), None),
            ((), (("frame", 10), ("roof", None)), 9),
            ((), (("frame", None), ("roof", 12)), 9),
            ((), (("frame", None), ("roof", 13)), 7),
            ((), (("frame", 11), ("roof", 13)), 7),
            ((), (("frame", 11), ("roof", 12)), 9),
            ((), (("frame", -FAR), ("roof", None)), 9),
            ((), (("frame", None),), None),
            ((), (("roof", None),), None),
            ((), (), None),
            ((("roof", FAR),), (("frame", None), ("roof", FAR)), 17),
            ((("roof", FAR),), (("frame", None), ("roof", FAR - 1)), None),
        ]:
            self.same(price_within(PLANS, OFFER, floors, limit), price)
            self.same(price_within(plans=PLANS, offer=OFFER, floors=floors, limit=limit), price)

    def test_things_that_need_not_come(self):
        for floors, limit, price in [
            ((), (), 0), ((), (("b", None),), 0), ((("b", 3),), (("b", 2),), None), ((("b", 3),), (("b", 3),), 5),
            ((("b", 3),), (("a", 3),), None), ((("a", 3),), (("a", 3),), None), ((("a", 2),), (("a", 3),), 4),
        ]:
            self.same(price_within(AB, AB_OFFER, floors, limit), price)

    def test_plain_look(self):
        chance = random.Random(1)
        for plans, offer, priced, rows in some_cases(11):
            limits = grid_of_limits(plans.things, range(-1, 6))
            for floors in rows[::3]:
                for limit in chance.sample(limits, min(5, len(limits))):
                    prices = [price for plan, price in priced if fits(floors, plan) and is_room(plan, limit)]
                    self.same(price_within(plans, offer, floors, limit), least_of(prices))

    def test_wrong(self):
        self.judged(price_within, [AB, AB_OFFER, (), ()], [NO_PLANS, NO_OFFERS_OF, NO_FLOORS, NO_LIMITS])
        self.fails(BadLimit("."), price_within, AB, AB_OFFER, (), ENDLESS)


class Staircase(Case):
    def test_by_hand(self):
        for floors, stairs in [
            ((), [(None, 9), (13, 7)]),
            ((("frame", 14),), [(16, 12)]),
            ((("frame", 10),), [(12, 9), (13, 7)]),
            ((("frame", 5),), [(7, 9), (13, 7)]),
            ((("frame", 30),), [(32, 17)]),
            ((("roof", 16),), [(16, 12)]),
            ((("roof", 14),), [(14, 7)]),
            ((("frame", FAR),), [(FAR + 2, 17)]),
        ]:
            self.same(staircase(PLANS, OFFER, floors), stairs)
            self.same(staircase(plans=PLANS, offer=OFFER, floors=floors), stairs)

    def test_early_days(self):
        one = Plans(["a"], [(("a", 0),)])
        fare = [((None, -FAR), 9), ((1 - FAR, 5), 4), ((6, FAR), None), ((FAR + 1, None), 0)]
        falling = Offer(["a"], {"a": fare}, {"a": 7})
        self.same(staircase(one, falling, ()), [(None, 7), (1 - FAR, 4), (FAR + 1, 0)])
        self.same(staircase(one, falling, (("a", 3),)), [(3, 4), (FAR + 1, 0)])
        self.same(staircase(one, falling, (("a", -2 * FAR),)), [(-2 * FAR, 9), (1 - FAR, 4), (FAR + 1, 0)])
        self.same(staircase(one, falling.with_out("a", None), ()), [(None, 9), (1 - FAR, 4), (FAR + 1, 0)])
        self.same(staircase(one, falling.with_out("a", 0), ()), [(None, 0)])
        rising = Offer(["a"], {"a": [((None, 3), 1), ((4, None), 2)]}, {"a": None})
        self.same(staircase(one, rising, ()), [(None, 1)])
        self.same(staircase(one, rising, (("a", 4),)), [(4, 2)])

    def test_none(self):
        self.same(staircase(Plans(["a"]), Offer(["a"], {"a": EVER}, {"a": None}), ()), [])
        self.same(staircase(Plans(["a"], [(("a", 0),)]), Offer(["a"], {"a": NEVER}), (("a", 0),)), [])
        self.same(staircase(Plans(["a"]), Offer(["a"], {"a": EVER}, {"a": 3}), ()), [(None, 3)])

    def test_plain_look(self):
        lengths = set()
        for plans, offer, priced, rows in some_cases(12):
            window = WINDOWS[len(plans.things)]
            # However early a last day of the window is, below this one prices change no more.
            spread = max([-moment for maker in plans for _, moment in maker], default=0)
            least = window[0] + spread
            self.assertLess(least, -1)
            for floors in rows:
                stairs = []
                for day in range(least, window[-1] + 1):
                    price = above([row for row in priced if all(moment <= day for _, moment in row[0])], floors)
                    if price is not None and (not stairs or price < stairs[-1][1]):
                        stairs.append((None if day == least else day, price))
                answer = staircase(plans, offer, floors)
                self.same(answer, stairs)
                self.same(answer[-1][1] if answer else None, above(priced, floors))
                lengths.add(len(answer))
                for number in range(-1, 7):
                    days = [day for day, price in stairs if price <= number]
                    self.same(within_price(plans, offer, floors, number), tuple(days[:1]))
        self.assertTrue({0, 1, 2, 3} <= lengths)

    def test_within_price(self):
        for floors, number, day in [
            ((), 6, ()), ((), 7, (13,)), ((), 8, (13,)), ((), 9, (None,)), ((), FAR, (None,)),
            ((("frame", 14),), 11, ()), ((("frame", 14),), 12, (16,)), ((), -FAR, ()),
        ]:
            self.same(within_price(PLANS, OFFER, floors, number), day)
            self.same(within_price(plans=PLANS, offer=OFFER, floors=floors, number=number), day)

    def test_new_lists(self):
        staircase(PLANS, OFFER, ()).clear()
        self.same(len(staircase(PLANS, OFFER, ())), 2)

    def test_wrong(self):
        self.judged(staircase, [AB, AB_OFFER, ()], [NO_PLANS, NO_OFFERS_OF, NO_FLOORS])
        self.judged(within_price, [AB, AB_OFFER, (), 0], [NO_PLANS, NO_OFFERS_OF, NO_FLOORS, NO_NUMBERS])


if __name__ == "__main__":
    unittest.main()
