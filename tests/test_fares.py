"""Fares: judging, prices on days, putting off, prices ahead, sums, what price lists tell, fewest rows."""

import itertools
import random
import unittest

from cornerplans.asking import told
from cornerplans.days import Box
from cornerplans.errors import BadFare, BadNumber
from cornerplans.fares import (
    added, ahead, fewest_rows, greatest_fare, is_fare, least_fare, price_on, rows_for, shifted,
)
from cornerplans.prices import Prices, Row
from cornerplans.words import Words
from tests.helper import Case, any_values, is_inside, least_of, no_numbers, some_fare, worth_on
from tests.test_asking import NO_PRICES, NO_WORDS, NO_WORKS, ROWS, plain_left, some_lists

FAR = 10 ** 9
HUGE = 10 ** 30
EVER = [((None, None), 5)]
NEVER = [((None, None), None)]
FARE = [((None, 2), 4), ((3, 3), None), ((4, 9), 0), ((10, None), 7)]
FARES = [
    EVER, NEVER, FARE, [((None, None), 0)], [((None, 0), 0), ((1, None), None)],
    [((None, -HUGE), 1), ((1 - HUGE, None), 2)],
    [((None, 5), 3), ((6, 6), 2), ((7, None), 3)], [((None, 3), 10 ** 40), ((4, None), 0)],
]
NO_FARES = any_values() + [
    [], (), {}, "fare", None, 0, True,
    ((None, None), 5),
    [(None, None), 5],
    [((None, None), True)], [((None, None), False)], [((None, None), -1)], [((None, None), "5")], [((None, None), [5])],
    [[(None, None), 5]], [([None, None], 5)], [((None, None), 5, 0)], [((None, None),)], [((None,), 5)], [(None, 5)],
    [((None, None, None), 5)],
    [((0, None), 5)], [((None, 0), 5)], [((0, 9), 5)],
    [((None, None), 5), ((None, None), 6)],
    [((None, None), 5), ((1, None), 6)],
    [((None, 0), 5), ((None, None), 6)],
    [((None, 0), 5), ((2, None), 6)],
    [((None, 0), 5), ((0, None), 6)],
    [((None, 0), 5), ((1, None), 5)],
    [((None, 0), None), ((1, None), None)],
    [((None, 0), 0), ((1, None), False)],
    [((None, 0), 1), ((1, None), True)],
    [((None, False), 5), ((1, None), 6)],
    [((None, True), 5), ((2, None), 6)],
    [((None, 0), 5), ((True, None), 6)],
    [((1, None), 6), ((None, 0), 5)],
    [((None, 0), 5), ((1, 3), 6)],
    [((None, 0), 5), ((1, None), 6), ((2, None), 7)],
    [((None, 0), 5), ((1, 4), 6), ((4, None), 7)],
    [((None, 0), 5), ((1, 4), 6), ((6, None), 7)],
    [((None, 0), 5), ((1, 0), 6), ((1, None), 7)],
    [((None, 0), 5), ((1, None), 6), None],
    {(None, None): 5},
]


def no_fares(part):
    return [(value, BadFare(part)) for value in NO_FARES]


NO_DAYS = no_numbers(BadNumber("."))


def some_fares(seed, many, prices=(None, 0, 1, 2, 3), most=6):
    chance = random.Random(seed)
    return [some_fare(chance, range(0, 9), prices, most) for _ in range(many)]


class Judging(Case):
    def test_fares(self):
        for fare in FARES + some_fares(1, 100):
            for given in (fare, tuple(fare)):
                self.assertIs(is_fare(given), True)
                self.assertIs(is_fare(thing=given), True)
        fare = [((None, 0), 0)] + [((day, day), day % 2) for day in range(1, 12)] + [((12, None), 9)]
        self.assertIs(is_fare(fare), True)

    def test_no_fares(self):
        for value in NO_FARES:
            self.assertIs(is_fare(value), False)


class Prizes(Case):
    def test_price_on(self):
        for day, price in [(-FAR, 4), (2, 4), (3, None), (4, 0), (9, 0), (10, 7), (FAR, 7)]:
            self.same(price_on(FARE, day), price)
            self.same(price_on(fare=tuple(FARE), day=day), price)
        self.same(price_on(FARES[5], -HUGE), 1)
        self.same(price_on(FARES[5], 1 - HUGE), 2)
        for fare in some_fares(2, 50):
            for day in range(-2, 12):
                self.same(price_on(fare, day), worth_on(fare, day))
        self.judged(price_on, [FARE, 0], [no_fares("fare"), NO_DAYS])

    def test_shifted(self):
        self.same(shifted(FARE, 3), [((None, 5), 4), ((6, 6), None), ((7, 12), 0), ((13, None), 7)])
        self.same(shifted(fare=tuple(FARE), number=0), FARE)
        self.same(shifted(EVER, 9), EVER)
        self.same(shifted(FARES[4], -FAR), [((None, -FAR), 0), ((1 - FAR, None), None)])
        for fare in some_fares(3, 30):
            for number, day in itertools.product([-4, 0, 3], range(-5, 15)):
                self.same(worth_on(shifted(fare, number), day), worth_on(fare, day - number))
        self.judged(shifted, [FARE, 0], [no_fares("fare"), NO_DAYS])

    def test_ahead(self):
        self.same(ahead(FARE), [((None, 9), 0), ((10, None), 7)])
        self.same(ahead(fare=tuple(FARE)), [((None, 9), 0), ((10, None), 7)])
        self.same(ahead(NEVER), NEVER)
        self.same(ahead(FARES[4]), FARES[4])
        self.same(ahead([((None, 0), None), ((1, 3), 2), ((4, 4), 5), ((5, None), None)]), [
            ((None, 3), 2), ((4, 4), 5), ((5, None), None),
        ])
        for fare in some_fares(4, 100):
            told_ahead = ahead(fare)
            self.assertIs(is_fare(told_ahead), True)
            self.assertIsInstance(told_ahead, list)
            for day in range(-3, 13):
                prices = [worth_on(fare, other) for other in range(day, 15)]
                self.same(worth_on(told_ahead, day), least_of(price for price in prices if price is not None))
        self.judged(ahead, [FARE], [no_fares("fare")])

    def test_added(self):
        self.same(added(FARE, EVER), [((None, 2), 9), ((3, 3), None), ((4, 9), 5), ((10, None), 12)])
        self.same(added(one=tuple(FARE), other=NEVER), NEVER)
        self.same(added([((None, 2), 1), ((3, None), 2)], [((None, 2), 4), ((3, None), 3)]), EVER)
        self.same(added([((None, 2), 1), ((3, None), 2)], [((None, 4), 3), ((5, None), 0)]), [
            ((None, 2), 4), ((3, 4), 5), ((5, None), 2),
        ])
        fares = some_fares(5, 40)
        for one, other in zip(fares, fares[1:]):
            both = added(one, other)
            self.assertIs(is_fare(both), True)
            self.assertIsInstance(both, list)
            for day in range(-2, 12):
                prices = [worth_on(one, day), worth_on(other, day)]
                self.same(worth_on(both, day), None if None in prices else sum(prices))
        self.judged(added, [FARE, FARE], [no_fares("one"), no_fares("other")])

    def test_new_lists_and_what_was_passed_stays(self):
        given = [((None, 0), 5), ((1, None), 6)]
        for call in (lambda: shifted(given, 0), lambda: ahead(given), lambda: added(given, [((None, None), 0)])):
            one = call()
            self.same(one, [((None, 0), 5), ((1, None), 6)])
            one.clear()
            self.same(given, [((None, 0), 5), ((1, None), 6)])
            self.assertIsNot(call(), call())


class ByLists(Case):
    def test_by_hand(self):
        self.same(least_fare(Words(["narrowest"]), ROWS, "a"), [
            ((None, -1), 5), ((0, 1), 3), ((2, 5), 6), ((6, 9), 3), ((10, None), 5),
        ])
        self.same(greatest_fare(words=Words(["narrowest"]), prices=ROWS, work="a"), [
            ((None, -1), 5), ((0, 1), 3), ((2, 5), 7), ((6, 9), 3), ((10, None), 5),
        ])
        self.same(least_fare(words=Words(), prices=ROWS, work="b"), [
            ((None, -1), 5), ((0, 2), 4), ((3, None), 0),
        ])
        self.same(greatest_fare(Words(), ROWS, "b"), [((None, None), 5)])
        for call in (least_fare, greatest_fare):
            self.same(call(Words(), Prices(), "a"), NEVER)
            self.same(call(Words(), Prices([Row(Box("a", (0, 1)), 0)]), "a"), [
                ((None, -1), None), ((0, 1), 0), ((2, None), None),
            ])
            self.same(call(Words(), Prices([Row(Box("a", (0, 1)), 0)]), "b"), NEVER)
            self.judged(call, [Words(), ROWS, "a"], [NO_WORDS, NO_PRICES, NO_WORKS])

    def test_open_days_on_which_other_rows_are_left(self):
        # On all of these days "open" is told, but the least price turns on day 5.
        prices = Prices([Row(Box("a", (0, 9)), 4), Row(Box("a", (0, 9)), 8), Row(Box("a", (5, 9)), 2)])
        self.same(least_fare(Words(), prices, "a")[1:3], [((0, 4), 4), ((5, 9), 2)])
        self.same(greatest_fare(Words(), prices, "a")[1], ((0, 9), 8))

    def test_plain_look(self):
        for words, prices in some_lists(6, 150):
            for work in "abc":
                least, greatest = least_fare(words, prices, work), greatest_fare(words, prices, work)
                self.assertIs(is_fare(least), True)
                self.assertIs(is_fare(greatest), True)
                for day in range(0, 12):
                    left = [prices.rows[at].price for at in plain_left(words.words, prices.rows, work, day)]
                    self.same(worth_on(least, day), least_of(left))
                    self.same(worth_on(greatest, day), max(left, default=None))
                    what = told(words, prices, work, day)
                    self.same(what == "open", worth_on(least, day) != worth_on(greatest, day))
                    self.same(what == "none", worth_on(least, day) is None)


def fewest_by_hand(size, colours):
    """A plain look: for each run of so many prices (or none) the fewest rows that leave it."""
    counts, layer, many = {(None,) * size: 0}, [(None,) * size], 0
    while layer:
        many, found = many + 1, []
        for run in layer:
            for first, last in itertools.combinations(range(size + 1), 2):
                for colour in colours:
                    other = run[:first] + (colour,) * (last - first) + run[last:]
                    if other not in counts:
                        counts[other] = many
                        found.append(other)
        layer = found
    return counts


def fare_of(run):
    """The fare that has these prices on neighbouring days, the outer ones for ever."""
    rows = [((day, day), price) for day, price in enumerate(run)]
    rows[0], rows[-1] = ((None, rows[0][0][1]), rows[0][1]), ((rows[-1][0][0], None), rows[-1][1])
    fare = []
    for (first, last), price in rows:
        if fare and fare[-1][1] == price:
            first = fare.pop()[0][0]
        fare.append(((first, last), price))
    return fare


class Rows(Case):
    def tells(self, rows, fare):
        """The rows are for all works, and the newest one on each day has the price of the fare."""
        self.assertIsInstance(rows, list)
        self.assertTrue(all(isinstance(row, Row) and row.box.work is None for row in rows))
        turns = [end for (first, last), _ in fare for end in (first, last) if end is not None]
        for day in [0] + [end + more for end in turns for more in (-1, 0, 1)]:
            prices = [row.price for row in rows if is_inside(day, row.box.days)]
            self.same(prices[-1] if prices else None, worth_on(fare, day))
        if len(rows) <= 6:
            for work in ("a", "zzzzzz"):
                self.same(least_fare(Words(["newest"]), Prices(rows), work), fare)
                self.same(greatest_fare(Words(["newest"]), Prices(rows), work), fare)

    def test_by_hand(self):
        for fare, many in [
            (EVER, 1), (NEVER, 0), (FARE, 3), (FARES[6], 2), (FARES[4], 1), (FARES[5], 2), (FARES[7], 2),
            ([((None, 0), 1), ((1, 2), 2), ((3, 4), 1), ((5, 6), 2), ((7, None), 1)], 3),
            ([((None, 0), 1), ((1, 2), 2), ((3, 4), 3), ((5, 6), 2), ((7, None), 1)], 3),
            ([((None, 0), 1), ((1, 2), 2), ((3, 4), None), ((5, 6), 2), ((7, None), 1)], 4),
            ([((None, 0), None), ((1, 2), 0), ((3, 4), None), ((5, 6), 0), ((7, None), None)], 2),
        ]:
            self.same(fewest_rows(fare), many)
            self.same(fewest_rows(fare=tuple(fare)), many)
            self.same(len(rows_for(fare)), many)
            self.tells(rows_for(fare=tuple(fare)), fare)

    def test_more_than_six(self):
        fare = [((None, 0), 0)] + [((day, day), day) for day in range(1, 12)] + [((12, None), 12)]
        self.same(fewest_rows(fare), 13)
        self.tells(rows_for(fare), fare)

    def test_as_few_as_can_be(self):
        for size, colours in [(3, (0, 1, 2)), (5, (0, 1, 2)), (6, (0, 1))]:
            for run, many in fewest_by_hand(size, colours).items():
                fare = fare_of(run)
                self.assertEqual(fewest_rows(fare), many)
                if size == 5:
                    self.tells(rows_for(fare), fare)

    def test_longer_ones(self):
        for fare in some_fares(7, 40, (None, 0, 1, 2), 10):
            rows = rows_for(fare)
            self.tells(rows, fare)
            self.same(fewest_rows(fare), len(rows))

    def test_wrong(self):
        for call in (rows_for, fewest_rows):
            self.judged(call, [FARE], [no_fares("fare")])

    def test_new_lists(self):
        rows_for(FARE).clear()
        self.same(len(rows_for(FARE)), 3)


if __name__ == "__main__":
    unittest.main()
