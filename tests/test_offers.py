"""Offers: what they are made of, and the prices of plans."""

import random
import unittest

from cornerplans.days import Box
from cornerplans.errors import BadBook, BadFare, BadOffer, BadPlan, BadThing
from cornerplans.fares import least_fare
from cornerplans.offers import Offer, offer_of, price_of
from cornerplans.prices import Prices, Row
from cornerplans.words import Words
from tests.helper import Case, any_values, grid, others_than, some_offer, worth_of
from tests.test_asking import NO_PRICES, NO_WORDS, ROWS, some_lists
from tests.test_fares import EVER, FARE, NEVER, NO_FARES
from tests.test_moments import WRONG

NO_OFFERS = others_than(Offer, BadOffer(None))
NO_THINGS = [(value, BadBook("things")) for value in any_values() + [
    [], ["a", "a"], list("abcde"), ["abcdefg"], "ab", {"a": 1}, ["a", None], [["a"]], ["A"],
] if value not in (("a",), ["a"])]
NO_OUTS = any_values() + [
    {}, (), [], {"a": 1}, {"b": 1}, {"a": 1, "b": 1, "c": 1}, {"a": 1, "c": 1}, {"a": 1, "b": -1}, {"a": 1, "b": True},
    {"a": False, "b": 0}, {"a": 1, "b": "0"}, {"a": 1, "b": [0]}, {"a": (), "b": 0}, [("a", 1), ("b", 1)],
    {"a": 1, None: 1}, {"a": 1, 1: 1}, {("a",): 1, "b": 1},
]
NO_DICTS = any_values() + [
    {}, (), [], {"a": EVER}, {"b": EVER}, {"a": EVER, "b": EVER, "c": EVER}, {"a": EVER, "c": EVER}, [EVER, EVER],
    [("a", EVER), ("b", EVER)], {"a": EVER, None: EVER}, {("a",): EVER, "b": EVER}, (EVER, EVER),
]
OFFER = Offer(["b", "a"], {"a": FARE, "b": EVER}, {"b": 0, "a": None})


class Parts(Case):
    def test_properties(self):
        fares = {"b": tuple(EVER), "a": tuple(FARE)}
        for offer in (OFFER, Offer(things=("b", "a"), fares=fares, outs={"a": None, "b": 0})):
            self.same(offer.things, ("a", "b"))
            self.same(offer.fares, {"a": FARE, "b": EVER})
            self.same(offer.outs, {"a": None, "b": 0})
            self.same((list(offer.fares), list(offer.outs)), (["a", "b"], ["a", "b"]))
        for outs in ({"a": 0, "b": 0}, None):
            self.same(Offer(["a", "b"], {"a": NEVER, "b": FARE}, outs).outs, {"a": 0, "b": 0})
        self.same(Offer(["b", "a"], {"b": NEVER, "a": FARE}).outs, {"a": 0, "b": 0})
        self.same(Offer(list("dcba"), {name: EVER for name in "bacd"}).things, ("a", "b", "c", "d"))

    def test_properties_are_only_read(self):
        for name in ("things", "fares", "outs"):
            with self.assertRaises(AttributeError):
                setattr(OFFER, name, ())

    def test_wrong_things(self):
        for value, error in NO_THINGS:
            self.fails(error, Offer, value, {"a": EVER})
            self.fails(error, Offer, value, None, 7)
            self.fails(error, Offer, things=value, fares={}, outs=None)

    def test_wrong_fares(self):
        wrong = [{"a": EVER, "b": fare} for fare in NO_FARES] + [{"a": fare, "b": EVER} for fare in NO_FARES]
        for value in NO_DICTS + wrong:
            self.fails(BadOffer("fares"), Offer, ["a", "b"], value)
            self.fails(BadOffer("fares"), Offer, ["b", "a"], value, 7)
            self.fails(BadOffer("fares"), Offer, things=["a", "b"], fares=value, outs={"a": -1, "b": 0})

    def test_wrong_outs(self):
        for value in NO_OUTS:
            if value is not None:
                self.fails(BadOffer("outs"), Offer, ["a", "b"], {"a": EVER, "b": EVER}, value)
                self.fails(BadOffer("outs"), Offer, things=["a", "b"], fares={"a": EVER, "b": EVER}, outs=value)

    def test_later_changes_without_effect(self):
        things, fare = ["a", "b"], [((None, None), 5)]
        fares, outs = {"b": fare, "a": fare}, {"b": 1, "a": 2}
        offer = Offer(things, fares, outs)
        self.same((things, fares, outs), (["a", "b"], {"b": fare, "a": fare}, {"b": 1, "a": 2}))
        things.clear()
        fare.append(7)
        fares["a"] = outs["b"] = None
        self.assertEqual(offer, Offer(["a", "b"], {"a": EVER, "b": EVER}, {"a": 2, "b": 1}))
        offer.fares["a"].clear()
        offer.fares.clear()
        offer.outs.clear()
        self.same((offer.fares, offer.outs), ({"a": EVER, "b": EVER}, {"a": 2, "b": 1}))
        self.assertIsNot(offer.fares["a"], offer.fares["a"])

    def test_equality(self):
        self.assertTrue(OFFER == Offer(("a", "b"), {"b": tuple(EVER), "a": FARE}, {"a": None, "b": 0}))
        self.assertFalse(OFFER != Offer(("a", "b"), {"b": tuple(EVER), "a": FARE}, {"a": None, "b": 0}))
        self.assertTrue(Offer(["a"], {"a": EVER}) == Offer(["a"], {"a": EVER}, {"a": 0}))
        for other in (
            Offer(["a", "b"], {"a": FARE, "b": NEVER}, {"a": None, "b": 0}),
            Offer(["a", "b"], {"a": FARE, "b": EVER}, {"a": 0, "b": 0}),
            Offer(["a", "b"], {"a": FARE, "b": EVER}, {"a": None, "b": None}),
            Offer(["a", "b"], {"a": EVER, "b": FARE}, {"a": None, "b": 0}),
            Offer(["a", "c"], {"a": FARE, "c": EVER}, {"a": None, "c": 0}),
            Offer(["a"], {"a": FARE}, {"a": None}),
        ):
            self.assertFalse(OFFER == other)
            self.assertTrue(OFFER != other)
        self.unequal_to_others(OFFER)

    def test_no_iterating(self):
        self.not_iterated(OFFER)


class Changes(Case):
    def test_with_fare(self):
        other = OFFER.with_fare("b", tuple(FARE))
        self.assertEqual(other, Offer(["a", "b"], {"a": FARE, "b": FARE}, {"a": None, "b": 0}))
        self.same(other.fares["b"], FARE)
        self.assertEqual(OFFER.with_fare(name="a", fare=FARE), OFFER)
        self.same(OFFER.fares["b"], EVER)

    def test_with_out(self):
        other = OFFER.with_out("b", None)
        self.assertEqual(other, Offer(["a", "b"], {"a": FARE, "b": EVER}, {"a": None, "b": None}))
        self.assertEqual(OFFER.with_out(name="a", out=10 ** 9).outs, {"a": 10 ** 9, "b": 0})
        self.same(OFFER.outs, {"a": None, "b": 0})

    def test_wrong(self):
        values = any_values() + ["c", "A", "", ("a",), ["a"], None, 0]
        names = [(value, BadThing(value)) for value in values if value != "a"]
        self.judged(OFFER.with_fare, ["a", EVER], [names, [(value, BadFare("fare")) for value in NO_FARES]])
        self.judged(OFFER.with_out, ["a", 1], [names, [(value, BadOffer("outs")) for value in [
            True, False, -1, "0", [], (), {}, [0], (0,), {"a": 0}, OFFER, "a", (None,),
        ]]])


class Pricing(Case):
    def test_by_hand(self):
        for plan, price in [
            ((), None), ((("a", 0),), 4), ((("a", 3),), None), ((("a", 4), ("b", 0)), 5), ((("b", 0),), None),
            ((("a", 10), ("b", -7)), 12), ((("a", 4),), 0),
        ]:
            self.same(price_of(OFFER, plan), price)
            self.same(price_of(offer=OFFER, plan=plan), price)
        offer = Offer(["a", "b"], {"a": FARE, "b": NEVER}, {"a": 10 ** 20, "b": 6})
        for plan, price in [((), 10 ** 20 + 6), ((("a", 4),), 6), ((("b", 4),), None), ((("a", 3),), None)]:
            self.same(price_of(offer, plan), price)

    def test_plain_look(self):
        chance = random.Random(1)
        for things in ("a", "ab", "abc", "abcd"):
            for _ in range(5):
                offer = some_offer(chance, things, range(0, 5))
                for plan in chance.sample(grid(things, range(-1, 6)), 7):
                    self.same(price_of(offer, plan), worth_of(offer, plan))

    def test_wrong(self):
        plans = [(plan, BadPlan(".")) for plan in WRONG + [(("c", 0),), (("a", 0), ("b", 0), ("c", 0))]]
        self.judged(price_of, [OFFER, ()], [NO_OFFERS, plans])


class ByLists(Case):
    def test_by_hand(self):
        offer = offer_of(Words(["newest"]), ROWS, ["b", "a"], {"b": None, "a": 3})
        self.same(offer.things, ("a", "b"))
        self.same(offer.fares["b"], [((None, -1), 5), ((0, 2), 4), ((3, None), 0)])
        self.same(offer.outs, {"a": 3, "b": None})
        self.same(offer_of(words=Words(), prices=Prices(), things=("a",)).fares, {"a": NEVER})
        self.same(offer_of(Words(), Prices(), ["a"]).outs, {"a": 0})

    def test_open_none_and_a_price(self):
        prices = Prices([Row(Box("a", (0, 4)), 8), Row(Box("a", (3, 9)), 6), Row(Box("b"), 1)])
        offer = offer_of(Words(), prices, ["a", "b", "c"], None)
        self.same(offer.fares, {
            "a": [((None, -1), None), ((0, 2), 8), ((3, 9), 6), ((10, None), None)],
            "b": [((None, None), 1)],
            "c": NEVER,
        })

    def test_least_fares(self):
        for words, prices in some_lists(8, 40):
            offer = offer_of(words, prices, ["c", "b", "a"], {"a": 1, "b": 2, "c": None})
            fares = {name: least_fare(words, prices, name) for name in "abc"}
            self.assertEqual(offer, Offer(["a", "b", "c"], fares, {"a": 1, "b": 2, "c": None}))

    def test_wrong(self):
        outs = [(value, BadOffer("outs")) for value in NO_OUTS if value is not None]
        self.judged(offer_of, [Words(), ROWS, ["a", "b"], None], [NO_WORDS, NO_PRICES, NO_THINGS, outs])


if __name__ == "__main__":
    unittest.main()
