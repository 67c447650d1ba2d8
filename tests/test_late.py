"""Prices known late: forecasts, strategies, and what can be guaranteed."""

import itertools
import random
import unittest

from cornerplans.corners import corners, price_above
from cornerplans.errors import BadForecast, BadNumber, BadPlan, BadStrategy, TooMany
from cornerplans.late import (
    Forecast, foot_of, guaranteed, is_strategy, late_corners, parted, prices_of, regret, strategy_for, weighed,
    worth_of_news,
)
from cornerplans.offers import Offer
from cornerplans.plans import Plans
from tests.helper import (
    Case, any_values, fits, grid, is_made, is_room, least_of, no_numbers, others_than, some_made, some_offer, worth_of,
)
from tests.test_cells import NO_PLANS
from tests.test_corners import AB, FAR, NO_FLOORS
from tests.test_fares import EVER, FARE, NEVER
from tests.test_likeness import LONG

EARLY, CHEAP, DEAR = ((None, 5), 6), ((6, None), 2), ((6, None), 9)
MUST = {"a": None}
OFFERS = [Offer(["a"], {"a": [EARLY, CHEAP]}, MUST), Offer(["a"], {"a": [EARLY, DEAR]}, MUST)]
ONE = Plans(["a"], [(("a", 0),)])
APART = [(6, [(0,), (1,)])]
FORECAST = Forecast(OFFERS, APART)
AB_OFFERS = [Offer(["a", "b"], {"a": EVER, "b": FARE}), Offer(["a", "b"], {"a": FARE, "b": EVER})]
AB_FORECAST = Forecast(AB_OFFERS, [(3, [(0,), (1,)])])
NO_FORECASTS = others_than(Forecast, BadForecast("forecast"))
OTHER_FORECASTS = [(value, BadForecast("forecast")) for value in (
    FORECAST, Forecast([Offer(["a", "c"], {"a": EVER, "c": EVER})]),
)]
NO_NEWS = any_values() + [
    None, {}, {6: [(0,), (1,)]}, 6, (6, [(0,), (1,)]), [None], [6], [[6, [(0,), (1,)]]], [(6,)], [(6, [(0,), (1,)], 0)],
    [(None, [(0,), (1,)])], [(True, [(0,), (1,)])], [("6", [(0,), (1,)])], [([(0,), (1,)], 6)],
    [(6, None)], [(6, 0)], [(6, {})], [(6, {(0,): 1, (1,): 1})], [(6, [])], [(6, [(0,)])], [(6, [(1,)])],
    [(6, [(0, 1)])], [(6, [(1,), (0,)])], [(6, [[0], [1]])], [(6, [(0,), [1]])], [(6, [0, 1])],
    [(6, [(0,), (0, 1)])], [(6, [(0,), (0,)])], [(6, [(0,), (1,), (1,)])], [(6, [(0,), (1,), (2,)])],
    [(6, [(0,), (2,)])], [(6, [(-1,), (0,)])], [(6, [(False,), (True,)])], [(6, [(0,), (True,)])],
    [(6, [("0",), ("1",)])], [(6, [(0,), (None,)])],
    [(6, [(0,), (1,)]), (7, [(0,), (1,)])], [(6, [(0,), (1,)]), (6, [(0,), (1,)])], [(6, [(0,), (1,)]), None],
    [(7, [(0,), (1,)]), (6, [(0,), (1,)])],
]
# Such as are wrong for three offers alone.
NO_NEWS_OF_THREE = [
    [(6, [(0,), (1,)])], [(6, [(1, 2), (0,)])], [(6, [(0,), (2, 1)])], [(6, [(0, 1), (1, 2)])], [(6, [(0, 1, 2)])],
    [(6, [(0,), (1, 2)]), (7, [(0, 1), (2,)])], [(6, [(0,), (1, 2)]), (7, [(0,), (1, 2)])],
    [(6, [(0,), (1, 2)]), (6, [(0,), (1,), (2,)])], [(7, [(0,), (1, 2)]), (6, [(0,), (1,), (2,)])],
    [(6, [(0,), (1, 2)]), (7, [(0, 2), (1,)])], [(6, [(0,), (1,), (2,)]), (7, [(0,), (1, 2)])],
    [(6, [(0,), (1, 2)]), (7, [(0,), (1,), (2,), (2,)])],
]


class Forecasts(Case):
    def test_properties(self):
        for forecast in (FORECAST, Forecast(offers=tuple(OFFERS), news=((6, ((0,), (1,))),))):
            self.assertEqual(forecast.offers, OFFERS)
            self.assertIsInstance(forecast.offers, list)
            self.same(forecast.news, ((6, ((0,), (1,))),))
        self.same(Forecast(OFFERS).news, ())
        self.same(Forecast(OFFERS[:1], []).news, ())
        three = [(-FAR, [(0, 2), (1,)]), (10 ** 30, [(0,), (1,), (2,)])]
        self.same(Forecast([OFFERS[0]] * 3, three).news, ((-FAR, ((0, 2), (1,))), (10 ** 30, ((0,), (1,), (2,)))))
        self.same(Forecast([OFFERS[0]] * 3, three[1:]).news, ((10 ** 30, ((0,), (1,), (2,))),))
        for name in ("offers", "news"):
            with self.assertRaises(AttributeError):
                setattr(FORECAST, name, ())

    def test_lots_without_numbers(self):
        # Nothing says that a lot has a number; no offer is told apart by such a one.
        forecast = Forecast(OFFERS, [(6, [(), (0, 1)]), (7, [(), (0,), (1,)])])
        self.same(parted(forecast, 0, 1), 7)
        self.same(forecast.news, ((6, ((), (0, 1))), (7, ((), (0,), (1,)))))

    def test_wrong_offers(self):
        other = Offer(["b"], {"b": EVER})
        for value in any_values() + [
            None, [], (), {}, {0: OFFERS[0]}, OFFERS[0], [None], [OFFERS[0], None], OFFERS * 2, [OFFERS[0]] * 4,
            [OFFERS[0], other], [other, OFFERS[0]], [OFFERS[0], OFFERS[1], other], [OFFERS], [FORECAST], [ONE],
            [OFFERS[0], Offer(["a", "b"], {"a": EVER, "b": EVER})], "ab", 1,
        ]:
            self.fails(BadForecast("offers"), Forecast, value)
            self.fails(BadForecast("offers"), Forecast, value, None)
            self.fails(BadForecast("offers"), Forecast, offers=value, news=APART)

    def test_wrong_news(self):
        for value in NO_NEWS:
            if value not in ([], ()):
                self.fails(BadForecast("news"), Forecast, OFFERS, value)
                self.fails(BadForecast("news"), Forecast, offers=OFFERS, news=value)
        for value in NO_NEWS_OF_THREE:
            self.fails(BadForecast("news"), Forecast, [OFFERS[0], OFFERS[1], OFFERS[0]], value)
        for value in ([(6, [(0,)])], [(6, [])], [(6, [(0,), (0,)])]):
            self.fails(BadForecast("news"), Forecast, OFFERS[:1], value)

    def test_later_changes_without_effect(self):
        offers, lots = list(OFFERS), [(0,), (1,)]
        news = [(6, lots)]
        forecast = Forecast(offers, news)
        self.same(news, APART)
        offers.clear()
        lots.append((2,))
        news.append(7)
        self.assertEqual(forecast, FORECAST)
        forecast.offers.clear()
        self.assertEqual(forecast.offers, OFFERS)

    def test_equality(self):
        self.assertTrue(FORECAST == Forecast(tuple(OFFERS), ((6, ((0,), (1,))),)))
        self.assertFalse(FORECAST != Forecast(tuple(OFFERS), ((6, ((0,), (1,))),)))
        for other in (
            Forecast(OFFERS), Forecast(OFFERS, [(7, [(0,), (1,)])]), Forecast(OFFERS[::-1], APART),
            Forecast(OFFERS[:1]), Forecast([*OFFERS, OFFERS[0]], [(6, [(0,), (1,), (2,)])]),
        ):
            self.assertFalse(FORECAST == other)
            self.assertTrue(FORECAST != other)
        self.unequal_to_others(FORECAST)

    def test_no_iterating(self):
        self.not_iterated(FORECAST)

    def test_parted(self):
        three = Forecast([OFFERS[0]] * 3, [(2, [(0, 2), (1,)]), (5, [(0,), (1,), (2,)])])
        for forecast, one, other, day in [
            (FORECAST, 0, 1, 6), (FORECAST, 1, 0, 6), (FORECAST, 0, 0, None), (Forecast(OFFERS), 0, 1, None),
            (three, 0, 1, 2), (three, 1, 2, 2), (three, 2, 0, 5), (three, 2, 2, None),
            (Forecast([OFFERS[0]] * 3, [(2, [(0, 2), (1,)])]), 2, 0, None),
        ]:
            self.same(parted(forecast, one, other), day)
            self.same(parted(forecast=forecast, one=one, other=other), day)
        wrong = no_numbers(BadNumber(".")) + [(value, BadNumber(".")) for value in (-1, 2, 3, FAR)]
        self.judged(parted, [FORECAST, 0, 1], [NO_FORECASTS, wrong, wrong])


class Strategies(Case):
    def test_by_hand(self):
        for thing, answer in [
            (((("a", 5),), (("a", 5),)), True),
            (((("a", 5),), (("a", 4),)), False),
            (((("a", 6),), (("a", 9),)), True),
            (((("a", 5),), (("a", 6),)), False),
            (((("a", 6),), (("a", 5),)), False),
            (((("a", 6),), ()), False),
            (((), ()), False),
            (((("a", 6),),), False),
            (((("a", 6),), (("a", 6),), (("a", 6),)), False),
            ([(("a", 6),), (("a", 6),)], False),
            (((("a", 6),), [("a", 6)]), False),
            (((("a", 6),), (("a", True),)), False),
            (((("a", 6),), (("b", 6),)), False),
            (((("a", 6),), None), False),
        ] + [(value, False) for value in any_values()]:
            self.same(is_strategy(ONE, FORECAST, thing), answer)
            self.same(is_strategy(plans=ONE, forecast=FORECAST, thing=thing), answer)

    def test_things_that_are_left_out(self):
        offers = [Offer(["a", "b"], {"a": EVER, "b": EVER}), Offer(["a", "b"], {"a": EVER, "b": NEVER})]
        forecast = Forecast(offers, [(3, [(0,), (1,)])])
        for thing, answer in [
            (((), ()), True),
            (((("a", 2),), (("a", 2),)), True),
            (((("a", 2),), ()), False),
            (((("a", 3),), ()), True),
            (((), (("a", 3),)), True),
            (((), (("a", 2),)), False),
            (((("a", 2), ("b", 3)), (("a", 2),)), True),
            (((("a", 2), ("b", 2)), (("a", 2),)), False),
            (((("a", 2), ("b", 3)), (("a", 2), ("b", 3))), False),
        ]:
            self.same(is_strategy(AB, forecast, thing), answer)
        never = Forecast(offers)
        for thing, answer in [(((), ()), True), (((("a", FAR),), ()), False), (((("a", FAR),), (("a", FAR),)), True)]:
            self.same(is_strategy(AB, never, thing), answer)
        self.same(is_strategy(Plans(["a", "b"]), forecast, (((), ()), ())), False)
        self.same(is_strategy(Plans(["a", "b"], [(("b", 0),)]), forecast, ((("a", 3),), ())), False)

    def test_foot_and_prices(self):
        one = Offer(["a", "b"], {"a": EVER, "b": FARE}, {"a": 1, "b": 2})
        other = Offer(["a", "b"], {"a": FARE, "b": EVER}, {"a": 3, "b": 0})
        forecast = Forecast([one, other], [(3, [(0,), (1,)])])
        for strategy, foot, prices in [
            (((), ()), (), (3, 3)),
            (((("a", 2),), (("a", 2), ("b", 3))), (("a", 2),), (7, 9)),
            (((("a", 4), ("b", 9)), (("a", 10), ("b", 7))), (("a", 4), ("b", 7)), (5, 12)),
        ]:
            self.same(foot_of(AB, forecast, strategy), foot)
            self.same(foot_of(plans=AB, forecast=forecast, strategy=strategy), foot)
            self.same(prices_of(AB, forecast, strategy), prices)
            self.same(prices_of(plans=AB, forecast=forecast, strategy=strategy), prices)

    def test_wrong(self):
        good = ((), ())
        strategies = [(value, BadStrategy(".")) for value in any_values() + [
            (), [], None, ((),), ((), (), ()), [(), ()], ((("a", 2),), ()), ((), (("c", 2),)), (None, None),
        ]]
        self.judged(is_strategy, [AB, AB_FORECAST, None], [NO_PLANS, NO_FORECASTS + OTHER_FORECASTS, []])
        for call in (foot_of, prices_of):
            self.judged(call, [AB, AB_FORECAST, good], [NO_PLANS, NO_FORECASTS + OTHER_FORECASTS, strategies])

    def test_of_any_size(self):
        many = Forecast([Offer(list("abcd"), {name: LONG for name in "abcd"})] * 3)
        plans = Plans(list("abcd"), [(("a", 0),)])
        strategy = ((("a", 7),),) * 3
        self.same(is_strategy(plans, many, strategy), True)
        self.same(foot_of(plans, many, strategy), (("a", 7),))
        self.same(prices_of(plans, many, strategy), (5, 5, 5))


def some_news(chance, many, days):
    """News by chance, and the days on which the pairs of numbers are parted by them."""
    lots, news, partings = [tuple(range(many))], [], {}
    for day in sorted(chance.sample(list(days), chance.randint(0, 2))):
        long = [lot for lot in lots if len(lot) > 1]
        if long:
            lot = chance.choice(long)
            part = tuple(sorted(chance.sample(lot, chance.randint(1, len(lot) - 1))))
            rest = tuple(number for number in lot if number not in part)
            lots = sorted([other for other in lots if other != lot] + [part, rest])
            news.append((day, lots))
            for one, other in itertools.product(part, rest):
                partings[one, other] = partings[other, one] = day
    return news, partings


def is_followed(plan, other, day):
    """A plain look: whether what comes ahead of a day in one plan comes in the other one at the same moment."""
    return all(dict(other).get(name) == moment for name, moment in plan if day is None or moment < day)


def all_strategies(plans, offers, partings, window):
    """A plain look at all tuples of made plans with moments of a window: the feet and prices of strategies."""
    made = [plan for plan in grid(plans.things, window) if is_made(plan, plans.makers)]
    rows = [((), ())]
    for number, offer in enumerate(offers):
        priced = [(plan, worth_of(offer, plan)) for plan in made]
        rows = [
            (ahead + (plan,), prices + (price,))
            for ahead, prices in rows
            for plan, price in priced
            if price is not None and can_stand_behind(ahead, plan, partings)
        ]
    return rows


def can_stand_behind(ahead, plan, partings):
    """A plain look: whether the plan for the next offer follows those for the ones ahead, and they follow it."""
    number = len(ahead)
    return all(
        is_followed(plan, other, partings.get((number, at))) and is_followed(other, plan, partings.get((at, number)))
        for at, other in enumerate(ahead)
    )


def foot_by_hand(strategy, things):
    rows = [dict(plan) for plan in strategy]
    return tuple((name, min(row[name] for row in rows)) for name in things if all(name in row for row in rows))


def undercut(prices):
    """Those of some tuples of prices than which no other one is better."""
    return {row for row in prices if not any(row != other and is_as_good(other, row) for other in prices)}


def turning(one, other):
    """Two offers of a: by the first one one price counts up to day 4, then other, by the second one the other way."""
    fares = [[((None, 4), early), ((5, None), late)] for early, late in ((one, other), (other, one))]
    return [Offer(["a"], {"a": fare}, MUST) for fare in fares]


def is_as_good(prices, others):
    return all(price <= other for price, other in zip(prices, others))


# Things, how many offers, days on which something turns, a window beyond them, and how many cases.
SIZES = [
    ("a", 1, range(0, 4), range(-3, 8), 10),
    ("a", 2, range(0, 4), range(-5, 9), 40),
    ("a", 3, range(0, 4), range(-4, 8), 30),
    ("ab", 1, range(0, 3), range(-4, 7), 10),
    ("ab", 2, range(0, 3), range(-4, 7), 30),
    ("ab", 3, range(0, 2), range(-3, 5), 10),
    ("abc", 2, range(0, 2), range(-3, 5), 6),
]


def some_cases(seed):
    """Plans, a forecast, all its strategies, and floors."""
    chance = random.Random(seed)
    for things, many, days, window, cases in SIZES:
        for _ in range(cases):
            plans = ONE if things == "a" else some_made(chance, things, [0, 1], 4)
            offers = [some_offer(chance, things, days, (None, 0, 1, 2, 3), (None, None, 1, 2, 4)) for _ in range(many)]
            if chance.random() < 0.1:
                offers = offers[:1] * many
            news, partings = some_news(chance, many, range(days[0] - 1, days[-1] + 1)) if many > 1 else ([], {})
            strategies = all_strategies(plans, offers, partings, window)
            told = {(foot_by_hand(strategy, things), prices): strategy for strategy, prices in strategies}
            floors = grid(things, range(days[0] - 1, days[-1] + 2))
            if len(things) > 2:
                floors = chance.sample(floors, 30)
            yield plans, Forecast(offers, news), told, floors


def prices_above(told, floors):
    """A plain look at the prices of the strategies that meet floors, without needless ones."""
    return undercut({prices for foot, prices in told if fits(floors, foot)})


class LateCorners(Case):
    def test_by_hand(self):
        self.same(late_corners(ONE, FORECAST), [((2, 9), (("a", None),)), ((6, 6), (("a", 5),))])
        self.same(late_corners(plans=ONE, forecast=FORECAST), [((2, 9), (("a", None),)), ((6, 6), (("a", 5),))])
        self.same(late_corners(ONE, Forecast(OFFERS)), [((2, 9), (("a", None),)), ((6, 6), (("a", 5),))])
        self.same(late_corners(Plans(["a"]), FORECAST), [])

    def test_news_that_come_sooner_or_later(self):
        offers = turning(1, 9)
        for day, pairs in [
            (-FAR, [((1, 1), (("a", 4),)), ((9, 1), (("a", None),))]),
            (4, [((1, 1), (("a", 4),)), ((9, 1), (("a", None),))]),
            (5, [((1, 9), (("a", 4),)), ((9, 1), (("a", None),))]),
            (FAR, [((1, 9), (("a", 4),)), ((9, 1), (("a", None),))]),
        ]:
            self.same(late_corners(ONE, Forecast(offers, [(day, [(0,), (1,)])])), pairs)

    def test_one_moment_for_three_offers(self):
        # b comes five days behind a. What is known too late for a comes too late for b, too, though it is known by then
        # on which days b can be done.
        plans, must = Plans(["a", "b"], [(("a", 0), ("b", 5))]), {"a": None, "b": None}
        soon = Offer(["a", "b"], {"a": EVER, "b": [((None, 3), None), ((4, 5), 1), ((6, None), None)]}, must)
        late = Offer(["a", "b"], {"a": EVER, "b": [((None, 5), None), ((6, 7), 2), ((8, None), None)]}, must)
        for at in range(3):
            offers = [soon] * 3
            offers[at] = late
            both = tuple(number for number in range(3) if number != at)
            prices = tuple(7 if number == at else 6 for number in range(3))
            pairs = [(prices, (("a", 0), ("b", 5)))]
            for day, answer in [(3, []), (1, []), (0, pairs), (-FAR, pairs)]:
                for lots in ([(0,), (1,), (2,)], sorted([both, (at,)])):
                    self.same(late_corners(plans, Forecast(offers, [(day, lots)])), answer)
            rough = sorted([(both[0],), tuple(sorted([both[1], at]))])
            self.same(late_corners(plans, Forecast(offers, [(-FAR, rough)])), [])

    def test_one_offer_alone_and_equal_ones(self):
        chance = random.Random(1)
        for things in ("a", "ab", "abc", "abcd"):
            for _ in range(8):
                plans, offer = some_made(chance, things, [0, 1, 3], 4), some_offer(chance, things, range(0, 6))
                pairs = [((price,), limit) for price, limit in corners(plans, offer)]
                self.same(late_corners(plans, Forecast([offer])), pairs)
                if len(things) < 3:
                    for news in ([], [(2, [(0,), (1,), (2,)])], [(2, [(0, 1), (2,)])]):
                        same = late_corners(plans, Forecast([offer] * 3, news))
                        self.assertTrue(all(((price,) * 3, limit) in same for (price,), limit in pairs))

    def test_news_ahead_of_all_days(self):
        # Then each offer stands for itself, but what is ahead of the news must be the same.
        chance = random.Random(2)
        for things in ("a", "ab"):
            for _ in range(10):
                plans = some_made(chance, things, [0, 1], 3)
                one, other = some_offer(chance, things, range(0, 5)), some_offer(chance, things, range(0, 5))
                forecast = Forecast([one, other], [(-FAR, [(0,), (1,)])])
                for floors in grid(things, range(-1, 6)):
                    prices = (price_above(plans, one, floors), price_above(plans, other, floors))
                    self.same(guaranteed(plans, forecast, floors), None if None in prices else max(prices))

    def test_plain_look(self):
        lengths = set()
        for plans, forecast, told, rows in some_cases(3):
            pairs = late_corners(plans, forecast)
            lengths.add(len(pairs))
            for (prices, limit), (others, end) in itertools.permutations(pairs, 2):
                self.assertFalse(is_as_good(others, prices) and is_room(limit, end))
            self.assertEqual(pairs, sorted(pairs, key=lambda pair: (pair[0], [
                (name, (end is None, end or 0)) for name, end in pair[1]
            ])))
            for floors in rows:
                fitting = undercut({prices for prices, limit in pairs if is_room(floors, limit)})
                self.assertEqual(fitting, prices_above(told, floors))
        self.assertTrue({0, 1, 2, 3, 4} <= lengths)

    def test_strategies_of_corners(self):
        for plans, forecast, told, rows in some_cases(4):
            offers = forecast.offers
            for floors in rows[::3]:
                best = prices_above(told, floors)
                for prices in sorted(best)[:3]:
                    strategy = strategy_for(plans, forecast, prices, floors)
                    self.assertIs(is_strategy(plans, forecast, strategy), True)
                    self.assertTrue(all(fits(floors, plan) and is_made(plan, plans.makers) for plan in strategy))
                    self.same(prices_of(plans, forecast, strategy), prices)
                    self.assertTrue(fits(floors, foot_of(plans, forecast, strategy)))
                    for at in range(len(offers)):
                        less = prices[:at] + (prices[at] - 1,) + prices[at + 1:]
                        there = any(is_as_good(row, less) for row in best)
                        self.same(strategy_for(plans, forecast, less, floors) is not None, there)
                if not best:
                    self.same(strategy_for(plans, forecast, (FAR,) * len(offers), floors), None)

    def test_is_strategy_by_a_plain_look(self):
        chance = random.Random(5)
        for plans, forecast, told, rows in some_cases(6):
            strategies = sorted(told.values())
            for strategy in chance.sample(strategies, min(3, len(strategies))):
                self.assertIs(is_strategy(plans, forecast, strategy), True)
                self.same(foot_of(plans, forecast, strategy), foot_by_hand(strategy, plans.things))
            some, partings = grid(plans.things, range(-1, 4)), {}
            numbers = range(len(forecast.offers))
            for one, other in itertools.permutations(numbers, 2):
                partings[one, other] = parted(forecast, one, other)
            for _ in range(10):
                thing = tuple(chance.choice(some) for _ in numbers)
                answer = all(is_made(plan, plans.makers) for plan in thing)
                answer = answer and None not in [worth_of(offer, plan) for offer, plan in zip(forecast.offers, thing)]
                for (one, other), day in partings.items():
                    answer = answer and is_followed(thing[one], thing[other], day)
                self.same(is_strategy(plans, forecast, thing), answer)

    def test_far_moments(self):
        offers = [
            Offer(["a", "b"], {"a": [((None, FAR), 1), ((FAR + 1, None), 5)], "b": EVER}, {"a": None, "b": None}),
            Offer(["a", "b"], {"a": [((None, -FAR), 1), ((1 - FAR, None), 5)], "b": EVER}, {"a": None, "b": None}),
        ]
        plans = Plans(["a", "b"], [(("a", 0), ("b", 2 * FAR))])
        pairs = [
            ((6, 6), (("a", -FAR), ("b", FAR))), ((6, 10), (("a", FAR), ("b", 3 * FAR))),
            ((10, 10), (("a", None), ("b", None))),
        ]
        self.same(late_corners(plans, Forecast(offers)), pairs)
        for floors in [(("a", 10 ** 12),), (("b", 10 ** 12),), (("a", -FAR), ("b", 10 ** 12))]:
            strategy = strategy_for(plans, Forecast(offers), (10, 10), floors)
            self.assertTrue(is_strategy(plans, Forecast(offers), strategy))
            self.assertTrue(all(fits(floors, plan) for plan in strategy))

    def test_new_lists(self):
        late_corners(ONE, FORECAST).clear()
        self.same(len(late_corners(ONE, FORECAST)), 2)


class Best(Case):
    def test_by_hand(self):
        for floors, sure, weigh, rue in [((), 6, 11, 3), ((("a", 5),), 6, 11, 3), ((("a", 6),), 9, 11, 0)]:
            self.same(guaranteed(ONE, FORECAST, floors), sure)
            self.same(guaranteed(plans=ONE, forecast=FORECAST, floors=floors), sure)
            self.same(weighed(ONE, FORECAST, floors, (1, 1)), weigh)
            self.same(weighed(plans=ONE, forecast=FORECAST, floors=floors, weights=(1, 1)), weigh)
            self.same(regret(ONE, FORECAST, floors), rue)
            self.same(regret(plans=ONE, forecast=FORECAST, floors=floors), rue)
        for weights, price in [((0, 0), 0), ((1, 0), 2), ((0, 1), 6), ((2, 1), 13), ((1, 2), 18), ((FAR, 0), 2 * FAR)]:
            self.same(weighed(ONE, FORECAST, (), weights), price)
        self.same(strategy_for(ONE, FORECAST, (5, 9), ()), ((("a", 6),), (("a", 6),)))
        self.same(strategy_for(plans=ONE, forecast=FORECAST, prices=(5, 8), floors=()), None)
        self.same(strategy_for(ONE, FORECAST, (2, 9), (("a", 9),)), ((("a", 9),), (("a", 9),)))

    def test_none(self):
        never = Forecast([offer.with_fare("a", NEVER) for offer in AB_OFFERS], [(3, [(0,), (1,)])])
        for plans, forecast, floors in [(Plans(["a"]), FORECAST, ()), (AB, never, (("a", 3), ("b", 3)))]:
            self.same(guaranteed(plans, forecast, floors), None)
            self.same(weighed(plans, forecast, floors, (0, 0)), None)
            self.same(regret(plans, forecast, floors), None)
            self.same(strategy_for(plans, forecast, (FAR, FAR), floors), None)
            self.same(worth_of_news(plans, forecast, [], floors), None)

    def test_plain_look(self):
        chance = random.Random(7)
        for plans, forecast, told, rows in some_cases(8):
            offers = forecast.offers
            for floors in rows[::2]:
                found = {prices for foot, prices in told if fits(floors, foot)}
                self.same(guaranteed(plans, forecast, floors), least_of([max(prices) for prices in found]))
                weights = tuple(chance.randint(0, 3) for _ in offers)
                sums = [sum(more * price for more, price in zip(weights, prices)) for prices in found]
                self.same(weighed(plans, forecast, floors, weights), least_of(sums))
                above = [price_above(plans, offer, floors) for offer in offers]
                rues = [max(price - least for price, least in zip(prices, above)) for prices in found]
                self.same(regret(plans, forecast, floors), least_of(rues))

    def test_worth_of_news(self):
        offers = turning(1, 9)
        late, soon = Forecast(offers, [(5, [(0,), (1,)])]), [(4, [(0,), (1,)])]
        self.same(worth_of_news(ONE, late, soon, ()), 8)
        self.same(worth_of_news(plans=ONE, forecast=late, news=tuple(soon), floors=()), 8)
        self.same(worth_of_news(ONE, Forecast(offers, soon), [], ()), -8)
        self.same(worth_of_news(ONE, Forecast(offers, soon), soon, ()), 0)
        self.same(worth_of_news(ONE, late, soon, (("a", 5),)), 0)
        # Without news there is no strategy.
        parts = turning(1, None)
        self.same(guaranteed(ONE, Forecast(parts), ()), None)
        self.same(guaranteed(ONE, Forecast(parts, soon), ()), 1)
        self.same(worth_of_news(ONE, Forecast(parts), soon, ()), None)
        self.same(worth_of_news(ONE, Forecast(parts, soon), [], ()), None)

    def test_sooner_and_finer_news_are_never_worse(self):
        chance = random.Random(9)
        for _ in range(25):
            offers = [some_offer(chance, "ab", range(0, 4), (None, 0, 1, 2, 3)) for _ in range(3)]
            plans = some_made(chance, "ab", [0, 1], 3)
            rough, fine = [(0, 1), (2,)], [(0,), (1,), (2,)]
            news = [[], [(3, rough)], [(2, rough)], [(2, rough), (3, fine)], [(1, fine)], [(0, fine)]]
            forecasts = [Forecast(offers, each) for each in news]
            for floors in grid("ab", range(0, 3)):
                prices = [guaranteed(plans, forecast, floors) for forecast in forecasts]
                numbers = [FAR if price is None else price for price in prices]
                self.assertEqual(numbers, sorted(numbers, reverse=True))


class Wrong(Case):
    def test_in_order(self):
        forecasts = NO_FORECASTS + OTHER_FORECASTS
        prices = [(value, BadStrategy(".")) for value in any_values() + [
            (), [], None, (1,), (1, 2, 3), [1, 2], (1, None), (True, 1), (1, "2"), (1, (2,)),
        ]]
        weights = [(value, BadNumber(".")) for value in any_values() + [
            (), [], None, (1,), (1, 2, 3), [1, 2], (1, None), (True, 1), (1, "2"), (1, -1), (-1, 1), (1, (2,)),
        ]]
        news = [(value, BadForecast("news")) for value in NO_NEWS if value not in ([], ())]
        self.judged(late_corners, [AB, AB_FORECAST], [NO_PLANS, forecasts])
        self.judged(strategy_for, [AB, AB_FORECAST, (1, 2), ()], [NO_PLANS, forecasts, prices, NO_FLOORS])
        for call in (guaranteed, regret):
            self.judged(call, [AB, AB_FORECAST, ()], [NO_PLANS, forecasts, NO_FLOORS])
        self.judged(weighed, [AB, AB_FORECAST, (), (1, 2)], [NO_PLANS, forecasts, NO_FLOORS, weights])
        self.judged(worth_of_news, [AB, AB_FORECAST, APART, ()], [NO_PLANS, forecasts, news, NO_FLOORS])

    def test_too_many(self):
        def calls(plans, forecast, floors=(), prices=None, weights=None, news=()):
            many = len(forecast.offers)
            return [
                (guaranteed, plans, forecast, floors), (regret, plans, forecast, floors),
                (weighed, plans, forecast, floors, (0,) * many if weights is None else weights),
                (strategy_for, plans, forecast, (0,) * many if prices is None else prices, floors),
                (worth_of_news, plans, forecast, news, floors),
            ]

        for things, many in [("abcd", 2), ("abcd", 3), ("abc", 3)]:
            plans = Plans(list(things))
            offer = Offer(list(things), {name: EVER for name in things})
            long = Forecast([offer.with_fare("a", LONG)] * many)
            for forecast in (Forecast([offer] * many), long):
                self.fails(TooMany(6), late_corners, plans, forecast)
                for call in calls(plans, forecast):
                    self.fails(TooMany(6), *call)
            for call in calls(plans, long, floors=None):
                self.fails(BadPlan("."), *call)
            self.fails(BadNumber("."), weighed, plans, long, (), (-1,) * many)
            self.fails(BadStrategy("."), strategy_for, plans, long, (), ())
            self.fails(BadForecast("news"), worth_of_news, plans, long, None, ())
        for things, many in [("abcd", 1), ("abc", 2), ("ab", 3), ("a", 3)]:
            plans = Plans(list(things))
            offer = Offer(list(things), {name: EVER for name in things})
            for at in range(many):
                offers = [offer] * many
                offers[at] = offer.with_fare(things[-1], LONG)
                self.fails(TooMany(4), late_corners, plans, Forecast(offers))
                for call in calls(plans, Forecast(offers)):
                    self.fails(TooMany(4), *call)
                for call in calls(plans, Forecast(offers), floors=(("z", 0),)):
                    self.fails(BadPlan("."), *call)
                self.fails(BadNumber("."), weighed, plans, Forecast(offers), (), None)
            self.same(guaranteed(plans, Forecast([offer] * many), ()), 0)


if __name__ == "__main__":
    unittest.main()
