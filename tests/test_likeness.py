"""Likeness: which plans prices can tell apart, and which offers plans can tell apart."""

import itertools
import random
import unittest

from cornerplans.corners import price_above
from cornerplans.errors import BadOffer, BadPlan, NoPlans, OtherThings, TooMany
from cornerplans.likeness import (
    is_parting_offer, offers_alike, parting_offer, parting_plan, plans_alike, price_ahead,
)
from cornerplans.offers import Offer
from cornerplans.plans import Plans, plans_of
from cornerplans.rules import Book
from tests.helper import Case, any_values, grid, least_of, others_than, some_made, some_offer, worth_of
from tests.test_cells import NO_PLANS, small_plans
from tests.test_corners import AB, AB_OFFER, FAR
from tests.test_fares import EVER, FARE, NEVER
from tests.test_moments import WRONG
from tests.test_offers import NO_OFFERS

# In the place of the second one of two Plans, or Offers, of a and b.
OTHER_PLANS = [(value, OtherThings(".")) for value in (Plans(["a"]), Plans(["a", "c"]), Plans(["a", "b", "c"]))]
OTHER_OFFERS = [(value, OtherThings(".")) for value in (
    Offer(["a"], {"a": EVER}), Offer(["a", "c"], {"a": EVER, "c": EVER}),
)]
LONG = [((None, 0), 1), ((1, 1), 2), ((2, 2), 3), ((3, 3), 4), ((4, None), 5)]


class LikePlans(Case):
    def test_by_hand(self):
        for one, other, answer in [
            (Plans(["a"]), Plans(["a"]), True),
            (Plans(["a"]), Plans(["a"], [(("a", 3),)]), False),
            (Plans(["a"], [(("a", 7),)]), Plans(["a"], [(("a", 3),)]), True),
            (AB, Plans(["b", "a"], [(("a", 0), ("b", 7)), (("a", 9),), (("b", 9),)]), True),
            (AB, Plans(["b", "a"], [(("a", 0), ("b", 7)), (("a", 9),)]), False),
        ]:
            self.same(plans_alike(one, other), answer)
            self.same(plans_alike(one=other, other=one), answer)
            self.same(parting_offer(one, other) is None, answer)
            self.same(parting_offer(one=other, other=one) is None, answer)

    def test_books(self):
        one = Book(["a", "b"], [((("a", 0),), (("b", 0),)), ((("b", 0),), (("a", 0),))])
        other = Book(["a", "b"], [((("a", 0),), (("b", 0),)), ((("a", 3), ("b", 0)), (("a", 0), ("b", 3))), one[1]])
        self.same(plans_alike(plans_of(one), plans_of(other)), plans_of(one).makers == plans_of(other).makers)
        self.same(plans_alike(plans_of(one), plans_of(one.with_rule(one[0]))), True)

    def test_parting_offers_part(self):
        for things in ("a", "ab", "abc", "abcd"):
            chance = random.Random(1)
            rows = [some_made(chance, things, [0, 1, 2], 4) for _ in range(6)] + small_plans(1, 3, things[:3])
            rows = [plans for plans in rows if plans.things == tuple(things)]
            for one, other in itertools.product(rows, rows):
                pair = parting_offer(one, other)
                self.same(pair is None, one == other)
                self.same(plans_alike(one, other), one == other)
                if pair is not None:
                    offer, floors = pair
                    self.assertIsInstance(pair, tuple)
                    self.assertTrue(all(len(fare) <= 2 for fare in offer.fares.values()))
                    self.assertNotEqual(price_above(one, offer, floors), price_above(other, offer, floors))
                    self.assertIs(is_parting_offer(one, other, pair), True)
                    self.assertIs(is_parting_offer(one, one, pair), False)

    def test_alike_plans_have_one_price(self):
        chance = random.Random(2)
        for plans in small_plans(3, 8, "ab"):
            more = Plans(["b", "a"], [*reversed(plans.makers), ()])
            for _ in range(4):
                offer = some_offer(chance, "ab", range(0, 4))
                for floors in chance.sample(grid("ab", range(0, 4)), 5):
                    self.same(price_above(plans, offer, floors), price_above(more, offer, floors))
            self.same(plans_alike(plans, more), True)

    def test_is_parting_offer(self):
        one, other = Plans(["a"]), Plans(["a"], [(("a", 0),)])
        offer = Offer(["a"], {"a": EVER}, {"a": 7})
        for thing, answer in [
            ((offer, ()), True),
            ((offer, (("a", 3),)), True),
            ((offer.with_out("a", 5), ()), False),
            ((offer.with_out("a", 5), (("a", 3),)), True),
            ((offer.with_out("a", None), ()), True),
            ((offer.with_fare("a", NEVER), ()), False),
            ((offer.with_fare("a", NEVER), (("a", 3),)), False),
            ((offer.with_fare("a", LONG), (("a", 3),)), True),
            ([offer, ()], False),
            ((offer, []), False),
            ((offer, (("b", 3),)), False),
            ((offer, (("a", None),)), False),
            ((offer, None), False),
            ((offer,), False),
            ((offer, (), ()), False),
            (((), offer), False),
            ((one, ()), False),
            ((Offer(["b"], {"b": EVER}), ()), False),
            ((Offer(["a", "b"], {"a": EVER, "b": EVER}, {"a": None, "b": 0}), ()), False),
        ] + [(value, False) for value in any_values()]:
            self.same(is_parting_offer(one, other, thing), answer)
            self.same(is_parting_offer(one=other, other=one, thing=thing), answer)
            self.same(is_parting_offer(one, one, thing), False)

    def test_wrong(self):
        for call in (plans_alike, parting_offer):
            self.judged(call, [AB, AB], [NO_PLANS, NO_PLANS])
            self.judged(call, [AB, AB], [[], OTHER_PLANS])
        self.judged(is_parting_offer, [AB, AB, None], [NO_PLANS, NO_PLANS, []])
        self.judged(is_parting_offer, [AB, AB, None], [[], OTHER_PLANS, []])
        self.fails(NoPlans("."), plans_alike, Plans(["a"]), None)


def ahead_by_hand(offer, plan, reach=25):
    """A plain look at the plan put off by 0 or more, as far as something can turn."""
    if plan == ():
        return worth_of(offer, plan)
    prices = [worth_of(offer, [(name, moment + more) for name, moment in plan]) for more in range(reach)]
    return least_of([price for price in prices if price is not None])


class PriceAhead(Case):
    def test_by_hand(self):
        one = Offer(["a", "b"], {"a": FARE, "b": EVER}, {"a": 3, "b": None})
        for plan, price in [
            ((), None), ((("b", 0),), 8), ((("a", 0), ("b", 9)), 5), ((("a", 9), ("b", 0)), 5),
            ((("a", 10), ("b", 0)), 12), ((("a", 3), ("b", 0)), 5), ((("a", FAR), ("b", -FAR)), 12),
            ((("a", -FAR), ("b", 0)), 5), ((("a", 4),), None),
        ]:
            self.same(price_ahead(one, plan), price)
            self.same(price_ahead(offer=one, plan=plan), price)
        two = Offer(["a", "b"], {"a": [((None, 5), 1), ((6, None), None)], "b": [((None, 7), None), ((8, None), 2)]})
        for plan, price in [
            ((), 0), ((("a", 5),), 1), ((("a", 6),), None), ((("b", 0),), 2), ((("a", 0), ("b", 0)), None),
            ((("a", 0), ("b", 3)), 3), ((("a", 0), ("b", 2)), None), ((("a", 5), ("b", 8)), 3),
            ((("a", 6), ("b", 9)), None),
            ((("a", -FAR), ("b", 3 - FAR)), 3), ((("a", -FAR), ("b", 2 - FAR)), None),
        ]:
            self.same(price_ahead(two, plan), price)
        self.same(price_ahead(Offer(["a"], {"a": NEVER}, {"a": 2}), ()), 2)

    def test_plain_look(self):
        chance = random.Random(4)
        for things, many in [("a", 20), ("ab", 40), ("abc", 20), ("abcd", 8)]:
            for _ in range(many):
                offer = some_offer(chance, things, range(0, 6))
                for plan in chance.sample(grid(things, range(-3, 8)), 8):
                    self.same(price_ahead(offer, plan), ahead_by_hand(offer, plan))

    def test_wrong(self):
        plans = [(plan, BadPlan(".")) for plan in WRONG + [(("c", 0),), (("a", 0), ("c", 0))]]
        self.judged(price_ahead, [AB_OFFER, ()], [NO_OFFERS, plans])


def some_pairs(seed, many):
    """Pairs of offers by chance, the second one being the first one with a few other prices."""
    chance = random.Random(seed)
    for _ in range(many):
        things = chance.choice(["a", "ab", "ab", "abc"])
        prices = chance.choice([(None, 0, 1), (None, 0, 1, 2, 3), (0, 1), (0, 1, 2)])
        one = other = some_offer(chance, things, range(0, 4), prices, (None, 0, 1))
        for _ in range(chance.randint(0, 3)):
            name = chance.choice(things)
            fare = other.fares[name]
            at = chance.randrange(len(fare))
            fare[at] = (fare[at][0], chance.choice(prices))
            if chance.random() < 0.1:
                other = other.with_out(name, chance.choice([None, 0, 1, 2]))
            elif all(before[1] != behind[1] for before, behind in zip(fare, fare[1:])):
                other = other.with_fare(name, fare)
        yield (one, other) if chance.random() < 0.5 else (other, one)


class LikeOffers(Case):
    def check(self, one, other, answer):
        for pair in ((one, other), (other, one)):
            self.same(offers_alike(*pair), answer)
            self.same(offers_alike(one=pair[0], other=pair[1]), answer)
            plan = parting_plan(*pair)
            self.same(plan is None, answer)
            if plan is not None:
                self.assertNotEqual(price_ahead(one, plan), price_ahead(other, plan))
                plans = Plans(one.things, [plan])
                self.assertNotEqual(price_above(plans, one, plan), price_above(plans, other, plan))

    def test_one_thing(self):
        def offer(*fare, out=0):
            return Offer(["a"], {"a": list(fare)}, {"a": out})

        cheap = offer(((None, 4), 9), ((5, 9), 3), ((10, None), 8))
        self.check(cheap, cheap, True)
        self.check(cheap, offer(((None, 4), None), ((5, 9), 3), ((10, None), 8)), True)
        self.check(cheap, offer(((None, 9), 3), ((10, None), 8)), True)
        self.check(cheap, offer(((None, 9), 3), ((10, None), 9)), False)
        self.check(cheap, offer(((None, 8), 3), ((9, None), 8)), False)
        self.check(cheap, offer(((None, 9), 3), ((10, 10), None), ((11, None), 8)), True)
        self.check(cheap, offer(((None, 9), 3), ((10, None), 8), out=1), False)
        self.check(cheap, offer(((None, 9), 3), ((10, None), 8), out=None), False)
        self.check(offer(((None, None), None), out=None), offer(((None, None), 0), out=None), False)
        far = offer(((None, FAR), 0), ((FAR + 1, None), None))
        self.check(far, offer(((None, FAR - 1), 0), ((FAR, None), None)), False)

    def test_two_things(self):
        must = {"a": None, "b": None}
        steps, begun = [((None, 2), 5), ((3, 6), 1), ((7, None), 9)], [((None, 6), 1), ((7, None), 9)]
        one = Offer(["a", "b"], {"a": steps, "b": steps}, must)
        # By themselves early days can be put off; with two things one of them may then be late.
        self.check(one, one.with_fare("a", begun), False)
        self.check(one, one.with_fare("a", [((None, 2), 6), *steps[1:]]), False)
        self.check(one.with_fare("b", EVER), Offer(["a", "b"], {"a": begun, "b": EVER}, must), True)
        # If it costs little to be late, no early day counts.
        soft = [((None, 2), 5), ((3, 6), 1), ((7, None), 4)]
        two = Offer(["a", "b"], {"a": soft, "b": soft}, must)
        self.check(two, two.with_fare("a", [((None, 2), 6), *soft[1:]]), True)
        self.check(two, two.with_fare("a", [((None, 2), 2), *soft[1:]]), False)
        never = one.with_fare("b", NEVER)
        self.check(never, never.with_fare("a", NEVER), True)
        self.check(never.with_out("b", 3), never.with_fare("a", NEVER).with_out("b", 3), False)
        self.check(one.with_out("a", 0), one, False)

    def test_far_days(self):
        fare = [((None, -FAR), 5), ((1 - FAR, FAR), 1), ((FAR + 1, None), 4)]
        one = Offer(["a", "b", "c"], {"a": fare, "b": fare, "c": fare}, {"a": None, "b": None, "c": None})
        self.check(one, one.with_fare("c", [((None, -FAR), 6), *fare[1:]]), False)
        self.check(one, one.with_fare("c", [((None, 1 - FAR), 5), ((2 - FAR, FAR), 1), fare[2]]), False)
        self.check(one, one.with_fare("c", fare), True)

    def test_plain_look(self):
        counts = {True: 0, False: 0}
        for one, other in some_pairs(5, 250):
            answer = offers_alike(one, other)
            self.check(one, other, answer)
            if answer:
                for plan in grid(one.things, range(-5, 6) if len(one.things) < 3 else range(-3, 5)):
                    self.same(ahead_by_hand(one, plan, 12), ahead_by_hand(other, plan, 12))
            counts[answer] += one != other
        self.assertGreater(counts[True], 5)
        self.assertGreater(counts[False], 50)

    def test_alike_offers_have_one_price_above(self):
        chance = random.Random(6)
        for one, other in some_pairs(7, 120):
            if one != other and offers_alike(one, other):
                for _ in range(4):
                    plans = some_made(chance, one.things, [0, 1, 2], 3)
                    for floors in chance.sample(grid(one.things, range(0, 4)), 5):
                        self.same(price_above(plans, one, floors), price_above(plans, other, floors))

    def test_too_many(self):
        four = Offer(list("abcd"), {name: EVER for name in "abcd"})
        long, most = AB_OFFER.with_fare("a", LONG), AB_OFFER.with_fare("a", LONG[:3] + [((3, None), 9)])
        for call in (offers_alike, parting_plan):
            self.fails(TooMany(3), call, four, four)
            self.fails(TooMany(3), call, four.with_fare("a", LONG), four)
            self.fails(TooMany(4), call, long, AB_OFFER)
            self.fails(TooMany(4), call, AB_OFFER, AB_OFFER.with_fare("b", LONG))
            self.fails(TooMany(4), call, long, long)
            self.fails(OtherThings("."), call, four, long)
            self.fails(BadOffer("other"), call, four, None)
            self.fails(BadOffer("other"), call, long, None)
        self.check(most, most, True)
        three = Offer(list("abc"), {name: most.fares["a"] for name in "abc"})
        self.check(three, three.with_fare("b", EVER), False)

    def test_wrong(self):
        for call in (offers_alike, parting_plan):
            wrong = [others_than(Offer, BadOffer("one")), others_than(Offer, BadOffer("other"))]
            self.judged(call, [AB_OFFER, AB_OFFER], wrong)
            self.judged(call, [AB_OFFER, AB_OFFER], [[], OTHER_OFFERS])


if __name__ == "__main__":
    unittest.main()
