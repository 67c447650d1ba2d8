"""Turns: prices that come round, spot cells, the least prices of turns at all paces, and papers."""

import itertools
import math
import random
import unittest
from fractions import Fraction

from cornerplans.corners import price_above
from cornerplans.errors import BadCell, BadNumber, BadTurns, NoRounds, NoTurns, OtherThings, TooMany
from cornerplans.offers import Offer
from cornerplans.paces import paces
from cornerplans.plans import Plans
from cornerplans.rounds import RoundBook, keeps_rounds
from cornerplans.turns import (
    Turns, all_paces, common, is_round_paper, least_round, least_turn, pace_for, plan_for, round_paper, spot_book,
    spot_cells, spot_price, turn_price, unrolled,
)
from tests.helper import Case, any_values, grid, is_inside, least_of, no_numbers, others_than, worth_on
from tests.test_paces import all_lots, bars
from tests.test_rounds import NO_PACES, NO_PLAN, NO_ROUNDS, some_rounds
from tests.test_offers import NO_OUTS

FAR = 10 ** 9
WEEK = Turns(6, {"b": (4, None, 0, 7, 0, 1), "a": (1, 2, 3, 4, 5, 6)}, {"a": None, "b": 5})
EVEN = Turns(2, {"a": (3, 8), "b": (9, 1)}, {"a": None, "b": None})
NO_TURNS = others_than(Turns, NoTurns("."))
NO_ENDS = no_numbers(BadNumber("."))
# In the next round b is 2 or more behind a; a is at most 9 behind b.
ROUNDS = RoundBook(["a", "b"], [((("a", 2, 0),), (("b", 0, 1),)), ((("b", 0, 0),), (("a", 9, 0),))])
# b comes on the very day of a.
TIED = RoundBook(["a", "b"], [((("a", 0, 0),), (("b", 0, 0),)), ((("b", 0, 0),), (("a", 0, 0),))])


def some_turns(chance, things, periods=(1, 2, 3, 4, 6), outs=(None, None, 0, 1, 3)):
    """Turns by chance."""
    period = chance.choice(periods)
    fares = {name: tuple(chance.choice([None, 0, 1, 2, 3, 5]) for _ in range(period)) for name in things}
    return Turns(period, fares, {name: chance.choice(outs) for name in things})


def divisors(number):
    return [least for least in range(1, number + 1) if number % least == 0]


def by_rounds(turns, plan, pace, start=0):
    """A plain look: what so many rounds cost, one after the other, as a turn has."""
    many, moments, total = turns.period // math.gcd(turns.period, pace), dict(plan), 0
    for number in range(start, start + many):
        for name in turns.things:
            worth = turns.outs[name]
            if name in moments:
                worth = turns.fares[name][(moments[name] + number * pace) % turns.period]
            if worth is None:
                return None
            total += worth
    return total


def by_spots(turns, number, cell):
    """A plain look at the price of a spot cell."""
    spots, total = dict(cell), 0
    for name in turns.things:
        worths = [turns.outs[name]] * (turns.period // number)
        if name in spots:
            worths = [turns.fares[name][day] for day in range(turns.period) if day % number == spots[name]]
        if None in worths:
            return None
        total += sum(worths)
    return total


def all_spot_cells(things, number):
    return sorted(
        tuple(zip(lot, spots))
        for lot in all_lots(things)
        for spots in itertools.product(range(number), repeat=len(lot))
    )


def near_plans(things, period, reach):
    """Plans of all lots of things: the first one in the first period, as all may be put off by it, the others near."""
    for lot in all_lots(things):
        yield from (tuple(zip(lot, row)) for row in itertools.product(
            *[range(-reach, reach + period) if at else range(period) for at in range(len(lot))]))


def cell_by(plan, number):
    return tuple((name, moment % number) for name, moment in plan)


class Parts(Case):
    def test_properties(self):
        for turns in (WEEK, Turns(period=6, fares=dict(reversed(WEEK.fares.items())), outs={"b": 5, "a": None})):
            self.same((turns.period, turns.things), (6, ("a", "b")))
            self.same(turns.fares, {"a": (1, 2, 3, 4, 5, 6), "b": (4, None, 0, 7, 0, 1)})
            self.same(turns.outs, {"a": None, "b": 5})
            self.same((list(turns.fares), list(turns.outs)), (["a", "b"], ["a", "b"]))
        self.same(Turns(1, {"b": (0,), "a": (None,)}).outs, {"a": 0, "b": 0})
        self.same(Turns(1, {"b": (0,), "a": (None,)}, None).outs, {"a": 0, "b": 0})
        self.same(Turns(2, {name: (1, 2) for name in "dbca"}).things, ("a", "b", "c", "d"))
        self.same(Turns(2, {"a": (1, 10 ** 40)}, {"a": 10 ** 40}).outs, {"a": 10 ** 40})
        for name in ("period", "things", "fares", "outs"):
            with self.assertRaises(AttributeError):
                setattr(WEEK, name, ())

    def test_wrong_periods(self):
        for period in range(1, 7):
            self.same(Turns(period, {"a": (1,) * period}).period, period)
        for period in [0, 7, -1, True, False, None, "1", (1,), FAR, -FAR] + [
                value for value, _ in no_numbers(None)]:
            self.fails(BadTurns("period"), Turns, period, {"a": (1,)})
            self.fails(BadTurns("period"), Turns, period=period, fares=None, outs=7)

    def test_wrong_fares(self):
        good = (1, 2, 3)
        rows = any_values() + [
            (), [], [1, 2, 3], (1, 2), (1, 2, 3, 4), (1, 2, -1), (1, 2, True), (False, 2, 3), (1, 2, "3"), (1, 2, (3,)),
            {0: 1, 1: 2, 2: 3}, "123", None, 3, (1, 2, [3]),
        ]
        rows = [row for row in rows if row != (1, 2, 3)]
        wrong = [{"a": row} for row in rows] + [{"a": good, "b": row} for row in rows]
        wrong += [{}, (), [], None, "a", ["a"], (("a", good),), [("a", good)], {"A": good}, {"": good}, {None: good}]
        wrong += [{"a": good, 1: good}, {"abcdefg": good}, {("a",): good}, {True: good}]
        wrong += [{name: good for name in "abcde"}]
        for fares in wrong + [value for value in any_values() if value != {"a": good}]:
            self.fails(BadTurns("fares"), Turns, 3, fares)
            self.fails(BadTurns("fares"), Turns, 3, fares, 7)

    def test_wrong_outs(self):
        for outs in NO_OUTS:
            if outs is not None:
                self.fails(BadTurns("outs"), Turns, 1, {"a": (1,), "b": (2,)}, outs)
                self.fails(BadTurns("outs"), Turns, period=1, fares={"a": (1,), "b": (2,)}, outs=outs)

    def test_equality(self):
        turns = Turns(2, {"a": (3, 8), "b": (9, 1)}, {"a": None, "b": None})
        self.assertTrue(turns == EVEN)
        self.assertFalse(turns != EVEN)
        for other in (
            Turns(1, {"a": (3,), "b": (9,)}, EVEN.outs), Turns(2, {"a": (3, 8), "b": (9, 2)}, EVEN.outs),
            Turns(2, EVEN.fares, {"a": None, "b": 0}), Turns(2, EVEN.fares), Turns(2, {"a": (3, 8)}, {"a": None}),
            Turns(2, {"a": (3, 8), "c": (9, 1)}, {"a": None, "c": None}),
        ):
            self.assertTrue(turns != other)
            self.assertFalse(turns == other)
        self.assertTrue(Turns(1, {"a": (1,)}) == Turns(1, {"a": (1,)}, {"a": 0}))
        self.unequal_to_others(turns)

    def test_new_dicts_and_no_iterating(self):
        fares, outs = {"b": (9, 1), "a": (3, 8)}, {"b": None, "a": None}
        turns = Turns(2, fares, outs)
        self.same((list(fares), list(outs)), (["b", "a"], ["b", "a"]))
        fares.clear()
        outs["a"] = 3
        turns.fares.clear()
        turns.outs.clear()
        self.assertEqual(turns, EVEN)
        self.not_iterated(turns)


class Unrolled(Case):
    def test_by_hand(self):
        offer = unrolled(EVEN, -1, 2)
        self.same(offer.fares["a"], [((None, -2), None), ((-1, -1), 8), ((0, 0), 3), ((1, 1), 8), ((2, 2), 3), (
            (3, None), None)])
        self.same((offer.things, offer.outs), (("a", "b"), {"a": None, "b": None}))
        self.assertEqual(unrolled(turns=EVEN, first=-1, last=2), offer)
        flat = Turns(3, {"a": (4, 4, None)})
        self.same(unrolled(flat, 0, 7).fares["a"], [
            ((None, -1), None), ((0, 1), 4), ((2, 2), None), ((3, 4), 4), ((5, 5), None), ((6, 7), 4),
            ((8, None), None),
        ])
        self.same(unrolled(flat, 2, 2).fares["a"], [((None, None), None)])
        self.same(unrolled(flat, FAR, FAR).fares["a"][0], ((None, FAR - 1), None))

    def test_plain_look(self):
        chance = random.Random(1)
        for _ in range(40):
            turns, first = some_turns(chance, "ab"), chance.randint(-9, 9)
            last = first + chance.randint(0, 10)
            offer = unrolled(turns, first, last)
            self.same(offer.outs, turns.outs)
            for name, day in itertools.product("ab", range(first - 8, last + 9)):
                worth = turns.fares[name][day % turns.period] if first <= day <= last else None
                self.same(worth_on(offer.fares[name], day), worth)

    def test_eleven_and_twelve_days(self):
        for first in (-FAR, -5, 0, 3, FAR):
            self.same(len(unrolled(EVEN, first, first + 10).fares["a"]), 13)
            for more in (11, 12, FAR):
                self.fails(TooMany(11), unrolled, EVEN, first, first + more)

    def test_wrong(self):
        lasts = NO_ENDS + [(value, BadNumber(".")) for value in (2, 1, -FAR)]
        self.judged(unrolled, [EVEN, 3, 9], [NO_TURNS, NO_ENDS, lasts])
        self.fails(BadNumber("."), unrolled, EVEN, 3, 2)


class TurnPrice(Case):
    def test_common(self):
        for pace, number in [
            (0, 6), (6, 6), (-6, 6), (-12, 6), (3, 3), (-3, 3), (9, 3), (4, 2), (-4, 2), (FAR, 2), (1, 1), (-1, 1),
            (5, 1),
        ]:
            self.same(common(WEEK, pace), number)
            self.same(common(turns=WEEK, pace=pace), number)
        self.judged(common, [WEEK, 3], [NO_TURNS, NO_PACES])

    def test_by_hand(self):
        for plan, pace, price in [
            ((("a", 0),), 6, 6), ((("a", 7),), 0, 7), ((("a", 0),), 1, 51), ((("a", 0),), 3, 15), ((("a", 1),), 2, 27),
            ((("a", 0), ("b", 0)), 2, 13), ((("a", 0), ("b", 1)), 2, None), ((("a", 0), ("b", 2)), 6, 1), ((), 6, None),
            ((("b", 2),), 6, None), ((("a", 0), ("b", 1)), 1, None), ((("a", -6), ("b", -2)), 6, 1),
        ]:
            self.same(turn_price(WEEK, plan, pace), price)
            self.same(turn_price(turns=WEEK, plan=plan, pace=pace), price)
        self.same(turn_price(Turns(3, {"a": (1, 2, 3)}, {"a": 4}), (), 1), 12)
        self.same(turn_price(Turns(3, {"a": (1, 2, 3)}, {"a": 4}), (), 3), 4)

    def test_round_by_round(self):
        chance = random.Random(2)
        for _ in range(80):
            turns = some_turns(chance, "ab", (1, 2, 3, 4, 5, 6))
            for pace in [*range(-7, 8), FAR, -FAR]:
                plan = tuple((name, chance.randint(-20, 20)) for name in chance.choice(["", "a", "b", "ab"]))
                price = turn_price(turns, plan, pace)
                for start in (0, 1, -3):
                    self.same(price, by_rounds(turns, plan, pace, start))
                number = common(turns, pace)
                self.same(price, spot_price(turns, number, cell_by(plan, number)))

    def test_wrong(self):
        self.judged(turn_price, [EVEN, (), 3], [NO_TURNS, NO_PLAN, NO_PACES])


def no_cells(good):
    """Any values that are no spot cells by 2 of a and b."""
    return [(value, BadCell(".")) for value in any_values() + [
        [], {}, [("a", 1)], (["a", 1],), (("a",),), (("a", 1, 0),), (("a", 2),), (("a", -1),), (("a", True),),
        (("a", False),), (("a", None),), (("a", "0"),), (("c", 0),), (("b", 0), ("a", 0)), (("a", 0), ("a", 1)),
        (("a", 0), ("a", 0)), (("a", 0), ("c", 0)), (("a", 0), None), ("a", 0), {"a": 0}, (("a", (0,)),), ((0, "a"),),
        (("a", FAR),), ((None, 0),), (("A", 0),),
    ] if value not in good]


NO_CELLS = no_cells([(), (("a", 1),)])
NO_DIVISORS = no_numbers(BadNumber(".")) + [(value, BadNumber(".")) for value in (0, -1, -2, 3, 4, 6, FAR)]
NO_BASES = no_numbers(BadNumber(".")) + [(value, BadNumber(".")) for value in (0, -1, -2, -FAR)]


class SpotCells(Case):
    def test_by_hand(self):
        self.same(spot_cells(EVEN, 1), [(("a", 0), ("b", 0))])
        self.same(spot_cells(turns=EVEN, number=2), [
            (("a", 0), ("b", 0)), (("a", 0), ("b", 1)), (("a", 1), ("b", 0)), (("a", 1), ("b", 1)),
        ])
        self.same(spot_cells(WEEK, 1), [(("a", 0),)])
        self.same(spot_cells(WEEK, 2), [(("a", 0),), (("a", 0), ("b", 0)), (("a", 1),), (("a", 1), ("b", 0))])
        self.same(spot_cells(Turns(1, {"a": (None,)}), 1), [()])
        self.same(spot_cells(Turns(1, {"a": (None,)}, {"a": None}), 1), [])
        for number, cell, price in [
            (1, (("a", 0),), 51), (2, (("a", 0),), 24), (2, (("a", 1), ("b", 0)), 16), (2, (("b", 0),), None),
            (2, (), None), (2, (("a", 0), ("b", 1)), None), (3, (("a", 0), ("b", 2)), 6),
            (6, (("a", 0), ("b", 5)), 2), (6, (("a", 5),), 11),
        ]:
            self.same(spot_price(WEEK, number, cell), price)
            self.same(spot_price(turns=WEEK, number=number, cell=cell), price)

    def test_plain_look(self):
        chance = random.Random(3)
        for _ in range(40):
            turns = some_turns(chance, chance.choice(["a", "ab", "abc"]), (1, 2, 3, 4, 6))
            for number in divisors(turns.period):
                cells = all_spot_cells(turns.things, number)
                prices = {cell: by_spots(turns, number, cell) for cell in cells}
                self.same(spot_cells(turns, number), [cell for cell in cells if prices[cell] is not None])
                for cell in cells:
                    self.same(spot_price(turns, number, cell), prices[cell])

    def test_wrong(self):
        self.judged(spot_cells, [EVEN, 2], [NO_TURNS, NO_DIVISORS])
        self.judged(spot_price, [EVEN, 2, (("a", 1),)], [NO_TURNS, NO_DIVISORS, NO_CELLS])
        for number, spot in [(1, 1), (2, 2), (3, 3), (6, 6)]:
            self.fails(BadCell("."), spot_price, WEEK, number, (("a", spot),))
        self.fails(BadNumber("."), spot_price, WEEK, 4, (("a", 0),))


def book_by_hand(rounds, number, cell):
    spots, rules = dict(cell), []
    for left, right in rounds.rules:
        for a, w, k in left:
            if a in spots:
                pairs = []
                for b, v, m in right:
                    if b in spots:
                        pairs.append((b, math.floor(Fraction(spots[b] + v - spots[a] - w, number)), m))
                rules.append((((a, 0, k),), tuple(pairs)))
    return RoundBook([name for name, _ in cell], rules)


class SpotBook(Case):
    def test_by_hand(self):
        book = spot_book(ROUNDS, 4, (("a", 3), ("b", 0)))
        self.assertEqual(book, RoundBook(["a", "b"], [
            ((("a", 0, 0),), (("b", -2, 1),)), ((("b", 0, 0),), (("a", 3, 0),)),
        ]))
        self.assertEqual(spot_book(rounds=ROUNDS, number=4, cell=(("a", 3), ("b", 0))), book)
        self.assertEqual(spot_book(ROUNDS, 4, (("a", 3),)), RoundBook(["a"], [((("a", 0, 0),), ())]))
        self.assertEqual(spot_book(ROUNDS, 1, (("b", 0),)), RoundBook(["b"], [((("b", 0, 0),), ())]))
        two = RoundBook(["a", "b"], [((("a", 1, 2), ("b", -1, 3)), (("a", -5, 0), ("b", 9, 1)))])
        self.assertEqual(spot_book(two, 7, (("a", 2), ("b", 6))), RoundBook(["a", "b"], [
            ((("a", 0, 2),), (("a", -1, 0), ("b", 1, 1))), ((("b", 0, 3),), (("a", -2, 0), ("b", 1, 1))),
        ]))

    def test_plain_look(self):
        chance = random.Random(4)
        for rounds in some_rounds(5, 60, "abc", range(-9, 10), 6):
            number = chance.choice([1, 2, 3, 4, 6, 7])
            cell = chance.choice(all_spot_cells("abc", min(number, 3))[1:])
            self.assertEqual(spot_book(rounds, number, cell), book_by_hand(rounds, number, cell))

    def test_plans_in_a_cell(self):
        chance, seen = random.Random(6), set()
        for things, many, reach in [("ab", 25, 40), ("abc", 6, 16)]:
            for rounds in some_rounds(7, many, things, range(-3, 4), 3, (0, 0, 1, 2)):
                number = chance.choice([1, 2, 3])
                for times in (-2, 0, 1):
                    kept = {
                        cell_by(plan, number) for plan in near_plans(things, number, reach)
                        if plan and keeps_rounds(rounds, number * times, plan)
                    }
                    for cell in all_spot_cells(things, number)[1:]:
                        parts = paces(spot_book(rounds, number, cell), tuple(name for name, _ in cell))
                        answer = any(is_inside(times, part) for part in parts)
                        seen.add(answer)
                        self.same(answer, cell in kept)
        self.assertEqual(seen, {True, False})

    def test_six_and_seven_rules(self):
        wide = ((tuple((name, 1, 0) for name in "abcd")), (("a", 0, 0),))
        rounds, cell = RoundBook(list("abcd"), [wide] * 6), tuple((name, 0) for name in "abcd")
        self.same(len(spot_book(rounds, 2, cell)), 24)
        for many in (7, 24):
            rounds = RoundBook(list("abcd"), [wide] * many)
            self.fails(TooMany(6), spot_book, rounds, 2, cell)
            self.fails(BadCell("."), spot_book, rounds, 2, ())
            self.fails(BadNumber("."), spot_book, rounds, 0, ())

    def test_wrong(self):
        self.judged(spot_book, [ROUNDS, 2, (("a", 1),)], [NO_ROUNDS, NO_BASES, NO_CELLS + [((), BadCell("."))]])


def least_of_plans(rounds, turns, pace, reach):
    """A plain look at the turns of all plans that are near."""
    worths = [by_rounds(turns, plan, pace) for plan in near_plans(turns.things, turns.period, reach)
              if keeps_rounds(rounds, pace, plan)]
    return least_of([worth for worth in worths if worth is not None])


class LeastTurns(Case):
    def test_by_hand(self):
        # b on the day of a: by an even pace always on days of one kind.
        for pace, price in [(0, 9), (2, 9), (1, 21), (-1, 21), (FAR, 9), (FAR + 1, 21)]:
            self.same(least_turn(TIED, EVEN, pace), price)
            self.same(least_turn(rounds=TIED, turns=EVEN, pace=pace), price)
            plan = plan_for(TIED, EVEN, pace)
            self.same(plan_for(rounds=TIED, turns=EVEN, pace=pace), plan)
            self.same((plan[0][1], turn_price(EVEN, plan, pace)), (plan[1][1], price))
        self.same(least_turn(RoundBook(["a", "b"]), EVEN, 0), 4)
        self.same(all_paces(TIED, EVEN), {1: [(None, None, 21)], 2: [(None, None, 9)]})
        self.same(all_paces(rounds=TIED, turns=EVEN), all_paces(TIED, EVEN))
        self.same(least_round(TIED, EVEN), (9, 1))
        self.same(least_round(rounds=TIED, turns=EVEN), (9, 1))
        self.same(pace_for(TIED, EVEN) % 2, 0)
        self.same(pace_for(rounds=TIED, turns=EVEN), pace_for(TIED, EVEN))

    def test_stretches_by_hand(self):
        self.same(all_paces(ROUNDS, EVEN), {1: [(None, -8, None), (-7, None, 21)], 2: [
            (None, -4, None), (-3, None, 4)]})
        waits = RoundBook(["a"], [((("a", 0, 0),), (("a", -5, 1),))])
        turns = Turns(3, {"a": (5, 2, 9)}, {"a": 7})
        self.same(all_paces(waits, turns), {1: [(None, 4, 21), (5, None, 16)], 3: [(None, 1, 7), (2, None, 2)]})
        self.same(least_round(waits, turns), (2, 1))
        turns = Turns(3, {"a": (5, 2, 9)}, {"a": 2})
        self.same(all_paces(waits, turns), {1: [(None, None, 6)], 3: [(None, None, 2)]})
        self.same((least_round(waits, turns), least_turn(waits, turns, 1)), ((2, 1), 6))

    def test_fractions_and_none(self):
        alone = RoundBook(["a"])
        for fare, out, answer in [
            ((1, 2), None, (1, 1)), ((None, 2), None, (2, 1)), ((None, None), None, None), ((None, None), 3, (3, 1)),
            ((0, 5), 4, (0, 1)),
        ]:
            self.same(least_round(alone, Turns(2, {"a": fare}, {"a": out})), answer)
            self.same(pace_for(alone, Turns(2, {"a": fare}, {"a": out})) is None, answer is None)
        # By rules that forbid the pace 0 and all multiples of the period, a turn has several rounds.
        hasty = RoundBook(["a"], [((("a", 0, 0),), (("a", 1, 1),)), ((("a", 0, 1),), (("a", 1, 0),)), (
            (("a", 0, 0),), (("a", -1, 1),))])
        self.same(paces(hasty, ("a",)), [(1, 1)])
        for fare, answer in [
            ((1, 2), (3, 2)), ((1, 2, 3), (2, 1)), ((1, 1, 2, 3), (7, 4)), ((3, 0, 1, 0, 0, 0), (2, 3)),
        ]:
            turns = Turns(len(fare), {"a": fare}, {"a": None})
            self.same(least_round(hasty, turns), answer)
            self.same(pace_for(hasty, turns), 1)
        never = Turns(2, {"a": (1, None)}, {"a": None})
        self.same((least_round(hasty, never), pace_for(hasty, never)), (None, None))
        self.same((least_turn(hasty, never, 1), plan_for(hasty, never, 1)), (None, None))
        self.same(least_turn(hasty, Turns(2, {"a": (1, 2)}, {"a": None}), 0), None)
        self.same(all_paces(hasty, Turns(2, {"a": (1, 2)}, {"a": None})), {
            1: [(None, 0, None), (1, 1, 3), (2, None, None)], 2: [(None, None, None)],
        })

    def test_plain_look(self):
        chance, seen = random.Random(8), set()
        for things, many, reach in [("a", 20, 0), ("ab", 25, 45), ("abc", 3, 12)]:
            for rounds in some_rounds(9, many, things, range(-3, 4), 3, (0, 0, 1, 2)):
                turns = some_turns(chance, things, (1, 2, 3, 4, 6) if len(things) < 3 else (2, 3))
                for pace in (-4, -3, -1, 0, 1, 2, 3, 6) if len(things) < 3 else (-1, 0, 1, 2):
                    price = least_of_plans(rounds, turns, pace, reach)
                    seen.add(price)
                    self.same(least_turn(rounds, turns, pace), price)
                    plan = plan_for(rounds, turns, pace)
                    self.same(plan is None, price is None)
                    if plan is not None:
                        self.assertTrue(keeps_rounds(rounds, pace, plan))
                        self.same(by_rounds(turns, plan, pace), price)
                    number = math.gcd(turns.period, pace)
                    rows = all_paces(rounds, turns)[number]
                    self.same(told_of(rows, pace // number), price)
        self.assertTrue({None, 0, 1, 2} <= seen)

    def test_far_paces(self):
        # What is told there is shown by papers that are looked at plainly.
        chance, seen = random.Random(10), 0
        for things, many in [("ab", 15), ("abc", 10)]:
            for rounds in some_rounds(11, many, things, range(-3, 4), 4):
                turns = some_turns(chance, things, (2, 3, 4, 6))
                table = all_paces(rounds, turns)
                self.same(list(table), divisors(turns.period))
                for number, rows in table.items():
                    self.judge_rows(rows)
                    looked = {-FAR, FAR, 0} | {end + more for row in rows for end in row[:2] if end is not None
                                               for more in (-1, 0, 1)}
                    for times in looked:
                        pace = number * times
                        if math.gcd(turns.period, pace) == number:
                            seen += 1
                            self.judge_paper(rounds, turns, pace, told_of(rows, times))
                self.judge_least_round(rounds, turns, table)
        self.assertGreater(seen, 100)

    def judge_rows(self, rows):
        self.same((rows[0][0], rows[-1][1]), (None, None))
        for (first, last, price), (start, end, worth) in zip(rows, rows[1:]):
            self.same(last + 1, start)
            self.assertNotEqual(price, worth)
        for first, last, _ in rows:
            self.assertTrue(first is None or last is None or first <= last)

    def judge_paper(self, rounds, turns, pace, price):
        number = math.gcd(turns.period, pace)
        plan, choices = round_paper(rounds, turns, pace)
        self.same(plan is None, price is None)
        if plan is not None:
            self.assertTrue(keeps_rounds(rounds, pace, plan))
            self.same(by_rounds(turns, plan, pace), price)
        worths = {cell: by_spots(turns, number, cell) for cell in all_spot_cells(turns.things, number)}
        cheaper = [cell for cell, worth in worths.items() if worth is not None and (price is None or worth < price)]
        self.same(list(choices), sorted(cheaper))
        for cell, choice in choices.items():
            book = book_by_hand(rounds, number, cell)
            self.assertTrue(choice and all(bars(book, pace // number, name, choice) for name in choice))
        self.same(is_round_paper(rounds, turns, pace, (plan, choices)), True)

    def judge_least_round(self, rounds, turns, table):
        best, pace = least_round(rounds, turns), pace_for(rounds, turns)
        self.same(best is None, pace is None)
        found = []
        for number, rows in table.items():
            for times in [*range(-40, 41), *[end + more for row in rows for end in row[:2] if end is not None
                                            for more in range(-7, 8)]]:
                if math.gcd(turns.period, number * times) == number:
                    price = told_of(rows, times)
                    if price is not None:
                        found.append(Fraction(price * number, turns.period))
        if best is None:
            self.same(found, [])
        else:
            self.same((math.gcd(*best), best[1] >= 1), (1, True))
            self.assertEqual(Fraction(*best), min(found))
            number = math.gcd(turns.period, pace)
            self.assertEqual(Fraction(least_turn(rounds, turns, pace) * number, turns.period), Fraction(*best))

    def test_unrolled_and_turns(self):
        # A plan of one round at the pace of the period costs what the unrolled offer says.
        plans = Plans(["a", "b"], [(("a", 0), ("b", 0))])
        self.same(least_turn(TIED, EVEN, 2), price_above(plans, unrolled(EVEN, -5, 5), ()))

    def test_limits(self):
        rule = ((("a", 0, 0),), (("b", 0, 0),))
        calls = [(least_turn, (1,)), (plan_for, (1,)), (all_paces, ()), (least_round, ()), (pace_for, ()), (
            is_round_paper, (1, None)), (round_paper, (1,))]
        four = Turns(1, {name: (1,) for name in "abcd"})
        for call, more in calls:
            call(RoundBook(["a", "b"], [rule] * 6), EVEN, *more)
            self.fails(TooMany(6), call, RoundBook(["a", "b"], [rule] * 7), EVEN, *more)
            self.fails(OtherThings("."), call, RoundBook(["a", "b", "c"], [rule] * 7), EVEN, *more)
            self.fails(OtherThings("."), call, RoundBook(["a"]), EVEN, *more)
            self.fails(OtherThings("."), call, RoundBook(list("abcd")), EVEN, *more)
            self.fails(TooMany(6), call, RoundBook(list("abcd"), [rule] * 7), four, *more)
            self.fails(TooMany(3), call, RoundBook(list("abcd"), [rule] * 6), four, *more)
            if more:
                self.fails(BadNumber("."), call, RoundBook(list("abcd"), [rule] * 7), four, True, *more[1:])
                self.fails(BadNumber("."), call, RoundBook(["a"]), EVEN, None, *more[1:])
            self.fails(NoTurns("."), call, RoundBook(list("abcd"), [rule] * 7), None, *more)
            self.fails(NoRounds("."), call, None, None, *more)

    def test_wrong(self):
        for call in (least_turn, plan_for, round_paper):
            self.judged(call, [TIED, EVEN, 1], [NO_ROUNDS, NO_TURNS, NO_PACES])
        for call in (all_paces, least_round, pace_for):
            self.judged(call, [TIED, EVEN], [NO_ROUNDS, NO_TURNS])
        self.judged(is_round_paper, [TIED, EVEN, 1, None], [NO_ROUNDS, NO_TURNS, NO_PACES, []])

    def test_new_dicts(self):
        table = all_paces(TIED, EVEN)
        table[1].clear()
        table.clear()
        self.same(all_paces(TIED, EVEN), {1: [(None, None, 21)], 2: [(None, None, 9)]})
        plan, choices = round_paper(TIED, EVEN, 2)
        for choice in choices.values():
            choice.clear()
        choices.clear()
        self.same(is_round_paper(TIED, EVEN, 2, round_paper(TIED, EVEN, 2)), True)


def told_of(rows, times):
    (price,) = [price for first, last, price in rows if is_inside(times, (first, last))]
    return price


class Papers(Case):
    BARS = {(("a", 0), ("b", 1)): {"a": 0, "b": 1}}

    def judge(self, thing, answer, rounds=TIED, turns=EVEN, pace=2):
        self.same(is_round_paper(rounds, turns, pace, thing), answer)
        self.same(is_round_paper(rounds=rounds, turns=turns, pace=pace, thing=thing), answer)

    def test_by_hand(self):
        # (a, b) = (0, 1) costs 4, and 9 is the price of both on odd days, 12 that of both on even ones.
        odd, even, bar = (("a", 1), ("b", 1)), (("a", 4), ("b", 4)), {"a": 0, "b": 1}
        self.judge((odd, self.BARS), True)
        self.judge((even, self.BARS), False)
        self.judge((even, {**self.BARS, odd: bar}), False)
        self.judge((odd, {**self.BARS, odd: bar}), False)
        self.judge((odd, {}), False)
        self.judge([odd, self.BARS], False)
        self.judge((odd, self.BARS, 0), False)
        self.judge((odd,), False)
        self.judge((odd, list(self.BARS.items())), False)
        self.judge((list(odd), self.BARS), False)
        self.judge((None, self.BARS), False)
        self.judge(((), self.BARS), False)
        self.judge(((("a", 0), ("b", 1)), {}), False)
        self.judge(((("a", 1), ("b", True)), self.BARS), False)
        self.judge(((("a", -FAR - 1), ("b", -FAR - 1)), self.BARS), True)
        for choice in [
            {}, {"a": 0}, {"b": 1}, {"a": 1, "b": 0}, {"a": False, "b": True}, {"a": 0, "b": True}, {"a": 0, "b": 2},
            {"a": 0, "b": 1, "c": 0}, [("a", 0), ("b", 1)], None, True, (), {"a": 0, "b": None},
        ]:
            self.judge((odd, {(("a", 0), ("b", 1)): choice}), False)
        for cell in [
            (("a", 0), ("b", True)), (("a", False), ("b", 1)), (("b", 1), ("a", 0)), (("a", 1), ("b", 0)), (("a", 0),),
            (), None, "a", 0, (("a", 0), ("b", 3)), (("a", 2), ("b", 1)),
        ]:
            self.judge((odd, {cell: bar}), False)
            if cell not in self.BARS:
                self.judge((odd, {**self.BARS, cell: bar}), False)

    def test_none_as_plan(self):
        hasty = RoundBook(["a"], [((("a", 0, 0),), (("a", 0, 0),)), ((("a", 0, 0),), (("a", -1, 1),))])
        turns = Turns(2, {"a": (4, None)}, {"a": None})
        self.judge((None, {(("a", 0),): {"a": 1}}), True, hasty, turns, 0)
        self.judge((None, {(("a", 0),): {"a": 0}}), False, hasty, turns, 0)
        self.judge((None, {}), False, hasty, turns, 0)
        self.judge((None, {(("a", 0),): {"a": 1}, (("a", 1),): {"a": 1}}), False, hasty, turns, 0)
        self.judge((None, {(("a", 0),): {"a": 1}, (): {"a": 1}}), False, hasty, turns, 0)
        self.same(round_paper(hasty, turns, 0), (None, {(("a", 0),): {"a": 1}}))
        self.same(round_paper(rounds=hasty, turns=turns, pace=0), (None, {(("a", 0),): {"a": 1}}))
        self.judge((None, {}), True, hasty, turns, 1)
        self.same(round_paper(hasty, turns, 1), (None, {}))
        # () has a price, so that some plan has one.
        turns = Turns(2, {"a": (4, None)}, {"a": 9})
        self.judge((None, {(("a", 0),): {"a": 1}}), False, hasty, turns, 0)
        self.judge((None, {(("a", 0),): {"a": 1}, (): {"a": 1}}), False, hasty, turns, 0)
        self.judge(((), {(("a", 0),): {"a": 1}}), True, hasty, turns, 0)
        self.judge(((), {}), False, hasty, turns, 0)
        self.judge(((), {}), True, hasty, turns, 1)
        self.judge(((("a", 0),), {}), False, hasty, turns, 0)
        self.judge(((("a", 0),), {}), True, hasty, turns, 2)
        self.judge(((("a", 1),), {}), False, hasty, turns, 2)

    def test_the_empty_plan_is_cheaper(self):
        turns, free = Turns(1, {"a": (3,)}, {"a": 2}), RoundBook(["a"])
        self.judge(((("a", 0),), {}), False, free, turns, 1)
        self.judge(((("a", 0),), {(): {}}), False, free, turns, 1)
        self.judge(((), {}), True, free, turns, 1)
        self.judge(((("a", 0),), {}), True, free, Turns(1, {"a": (2,)}, {"a": 2}), 1)

    def test_any_values(self):
        for value in any_values() + [((), ()), (None, None), ((), None), ({}, {}), (None, {})]:
            self.judge(value, False)

    def test_papers_by_chance(self):
        chance, seen = random.Random(12), set()
        for rounds in some_rounds(13, 30, "ab", range(-3, 4), 4):
            turns = some_turns(chance, "ab", (2, 3, 4))
            for pace in (-2, 0, 3):
                plan, choices = round_paper(rounds, turns, pace)
                self.same(is_round_paper(rounds, turns, pace, (plan, choices)), True)
                if choices:
                    cell = chance.choice(list(choices))
                    left = {other: choice for other, choice in choices.items() if other != cell}
                    self.same(is_round_paper(rounds, turns, pace, (plan, left)), False)
                for other in grid("ab", range(0, 3)):
                    worth = by_rounds(turns, other, pace)
                    keeps = keeps_rounds(rounds, pace, other)
                    answer = keeps and worth is not None and worth == least_turn(rounds, turns, pace)
                    seen.add((answer, keeps))
                    self.same(is_round_paper(rounds, turns, pace, (other, choices)), answer)
                later = None if plan is None else tuple((name, at + 12) for name, at in plan)
                self.same(is_round_paper(rounds, turns, pace, (later, choices)), True)
        self.same(len(seen), 3)

    def test_offers_stay(self):
        offer = unrolled(EVEN, 0, 5)
        self.assertIsInstance(offer, Offer)
        choices = {(("a", 0), ("b", 1)): {"b": 1, "a": 0}}
        is_round_paper(TIED, EVEN, 2, ((("a", 1), ("b", 1)), choices))
        self.same(list(choices[(("a", 0), ("b", 1))]), ["b", "a"])


if __name__ == "__main__":
    unittest.main()
