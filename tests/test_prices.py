"""Rows and price lists."""

import unittest

from cornerplans.days import Box
from cornerplans.errors import BadLot, BadNumber, BadPrices, BadRow, BadRows, NoRow, TooMany
from cornerplans.prices import Prices, Row
from tests.helper import Case, any_values
from tests.test_rules import NO_INDEX

FAR = 10 ** 9
NO_NUMBERS = [None, True, False, "1", "", (1,), [1], {}, (), Box()]
ONE, TWO, THREE = Row(Box("a"), 1), Row(Box("b", (1, 9)), 2, 3), Row(Box(), 0)


def parts(row):
    return (row.box.work, row.box.days, row.price, row.rank)


class Rows(Case):
    def test_parts(self):
        box = Box("a", (1, 2))
        for row, price, rank in [
            (Row(box, 5), 5, 0),
            (Row(box, 0, 9), 0, 9),
            (Row(box, FAR, 0), FAR, 0),
            (Row(box=box, price=3, rank=4), 3, 4),
            (Row(rank=1, price=10 ** 40, box=box), 10 ** 40, 1),
        ]:
            self.assertEqual(row.box, box)
            self.same((row.price, row.rank), (price, rank))

    def test_wrong(self):
        for box in any_values() + [(), [], ("a", (1, 2))]:
            if not isinstance(box, Box):
                self.fails(BadRow("box"), Row, box, 1)
                self.fails(BadRow("box"), Row, box, None, None)
        for price in NO_NUMBERS + [-1, -FAR]:
            self.fails(BadRow("price"), Row, Box(), price)
            self.fails(BadRow("price"), Row, Box(), price, None)
        for rank in NO_NUMBERS + [-1, 10, FAR, -FAR]:
            self.fails(BadRow("rank"), Row, Box(), 0, rank)

    def test_each_rank(self):
        for rank in range(10):
            self.same(Row(Box(), 1, rank).rank, rank)

    def test_ended(self):
        for days, day, left in [
            ((1, 5), 7, (1, 5)),
            ((1, 5), 6, (1, 5)),
            ((1, 5), 5, (1, 4)),
            ((1, 5), 3, (1, 2)),
            ((1, 5), 2, (1, 1)),
            ((1, 5), 1, None),
            ((1, 5), 0, None),
            ((4, 4), 5, (4, 4)),
            ((4, 4), 4, None),
            ((1, None), 3, (1, 2)),
            ((1, None), 1, None),
            ((None, 5), 6, (None, 5)),
            ((None, 5), 5, (None, 4)),
            ((None, 5), -FAR, (None, -FAR - 1)),
            ((None, None), 0, (None, -1)),
        ]:
            row = Row(Box("a", days), 7, 2)
            for answer in (row.ended(day), row.ended(day=day)):
                if left is None:
                    self.assertIsNone(answer)
                else:
                    self.same(parts(answer), ("a", left, 7, 2))
            self.same(parts(row), ("a", days, 7, 2))
        self.same(parts(Row(Box(), 7).ended(3)), (None, (None, 2), 7, 0))
        for day in NO_NUMBERS:
            self.fails(BadNumber("."), ONE.ended, day)
            self.fails(BadNumber("."), TWO.ended, day)

    def test_equality(self):
        row = Row(Box("a", (1, 2)), 5, 1)
        self.assertTrue(row == Row(Box("a", (1, 2)), 5, 1))
        self.assertFalse(row != Row(Box("a", (1, 2)), 5, 1))
        self.assertTrue(Row(Box(), 5) == Row(Box(), 5, 0))
        for other in (
            Row(Box("a", (1, 3)), 5, 1), Row(Box("b", (1, 2)), 5, 1), Row(Box("a", (1, 2)), 4, 1),
            Row(Box("a", (1, 2)), 5, 0), Row(Box("a", (1, 2)), 5, 2),
        ):
            self.assertTrue(row != other)
            self.assertFalse(row == other)
        self.unequal_to_others(row)

    def test_no_iterating(self):
        self.not_iterated(ONE)

    def test_properties_are_only_read(self):
        for name in ("box", "price", "rank"):
            with self.assertRaises(AttributeError):
                setattr(Row(Box(), 1), name, 1)


class PriceLists(Case):
    def test_rows(self):
        for rows in ([], [ONE], [ONE, TWO, ONE], [THREE, TWO, ONE]):
            for prices in (Prices(rows), Prices(tuple(rows)), Prices(rows=rows)):
                self.assertEqual(prices.rows, tuple(rows))
                self.assertIsInstance(prices.rows, tuple)
                self.same(len(prices), len(rows))
                for at, row in enumerate(rows):
                    self.assertEqual(prices[at], row)
        self.assertEqual(Prices().rows, ())

    def test_wrong(self):
        for rows in (None, True, 0, "ab", {}, {0: ONE}, ONE, Box(), Prices([ONE])):
            self.fails(BadPrices("rows"), Prices, rows)
        for value in any_values() + [(), [], (Box(), 1), (Box(), 1, 0)]:
            if not isinstance(value, Row):
                self.fails(BadRows(0), Prices, [value])
                self.fails(BadRows(1), Prices, (ONE, value, None))

    def test_six_and_seven_rows(self):
        self.same(len(Prices([ONE] * 6)), 6)
        self.fails(TooMany(6), Prices, [ONE] * 7)
        self.fails(TooMany(6), Prices, (ONE,) * 30)
        self.fails(BadRows(6), Prices, [ONE] * 6 + [None])
        self.fails(BadRows(0), Prices, [None] + [ONE] * 9)

    def test_index(self):
        prices = Prices([ONE, TWO])
        for at in NO_INDEX + [2, 3]:
            with self.assertRaises(NoRow) as caught:
                prices[at]
            self.assertIs(caught.exception.at, at)
            self.fails(NoRow(at), prices.without, at)
            self.fails(NoRow(at), prices.with_ended, at, 1)
            self.fails(NoRow(at), prices.with_ended, at, None)
        self.fails(NoRow(0), Prices().without, 0)

    def test_equality(self):
        prices = Prices([ONE, TWO])
        self.assertTrue(prices == Prices((Row(Box("a"), 1), Row(Box("b", (1, 9)), 2, 3))))
        self.assertFalse(prices != Prices((ONE, TWO)))
        for other in (Prices([TWO, ONE]), Prices([ONE]), Prices(), Prices([ONE, TWO, TWO]), Prices([ONE, THREE])):
            self.assertTrue(prices != other)
            self.assertFalse(prices == other)
        self.unequal_to_others(prices)

    def test_no_iterating(self):
        self.not_iterated(Prices([ONE]))
        self.not_iterated(Prices())

    def test_with_row(self):
        prices = Prices([ONE])
        self.assertEqual(prices.with_row(TWO), Prices([ONE, TWO]))
        self.assertEqual(prices.with_row(row=ONE), Prices([ONE, ONE]))
        self.assertEqual(prices, Prices([ONE]))
        full = Prices([ONE] * 5).with_row(TWO)
        self.assertEqual(full, Prices([ONE] * 5 + [TWO]))
        self.fails(TooMany(6), full.with_row, ONE)
        for value in any_values() + [(), []]:
            if not isinstance(value, Row):
                self.fails(BadRow("row"), prices.with_row, value)
                self.fails(BadRow("row"), full.with_row, value)

    def test_without(self):
        prices = Prices([ONE, TWO, THREE])
        self.assertEqual(prices.without(0), Prices([TWO, THREE]))
        self.assertEqual(prices.without(1), Prices([ONE, THREE]))
        self.assertEqual(prices.without(at=2), Prices([ONE, TWO]))
        self.assertEqual(prices, Prices([ONE, TWO, THREE]))
        self.assertEqual(Prices([ONE]).without(0), Prices())

    def test_with_ended(self):
        prices = Prices([ONE, TWO, THREE])
        self.assertEqual(prices.with_ended(1, 5), Prices([ONE, Row(Box("b", (1, 4)), 2, 3), THREE]))
        self.assertEqual(prices.with_ended(at=0, day=5), Prices([Row(Box("a", (None, 4)), 1), TWO, THREE]))
        self.assertEqual(prices.with_ended(1, 10), prices)
        self.assertEqual(prices.with_ended(1, 1), Prices([ONE, THREE]))
        self.assertEqual(prices.with_ended(1, -5), Prices([ONE, THREE]))
        self.assertEqual(prices.with_ended(2, 0), Prices([ONE, TWO, Row(Box(None, (None, -1)), 0)]))
        self.assertEqual(prices, Prices([ONE, TWO, THREE]))
        self.assertEqual(Prices([TWO]).with_ended(0, 1), Prices())
        for day in NO_NUMBERS:
            self.fails(BadNumber("."), prices.with_ended, 0, day)
            self.fails(NoRow(3), prices.with_ended, 3, day)

    def test_some(self):
        prices = Prices([ONE, TWO, THREE])
        self.assertEqual(prices.some(()), Prices())
        self.assertEqual(prices.some((0, 2)), Prices([ONE, THREE]))
        self.assertEqual(prices.some(lot=(1,)), Prices([TWO]))
        self.assertEqual(prices.some((0, 1, 2)), prices)
        self.assertEqual(prices, Prices([ONE, TWO, THREE]))
        for lot in any_values() + [
            [], [0], (0, 0), (1, 0), (0, 2, 1), (3,), (-1,), (-1, 0), (True,), (0, True), (False, 1), (0, None),
        ]:
            if lot != (0,):
                self.fails(BadLot("."), prices.some, lot)
        self.fails(BadLot("."), Prices().some, (0,))

    def test_later_changes_of_what_was_passed(self):
        rows = [ONE, TWO]
        prices = Prices(rows)
        self.assertEqual(rows, [ONE, TWO])
        rows.append(THREE)
        rows[0] = THREE
        self.assertEqual(prices, Prices([ONE, TWO]))

    def test_properties_are_only_read(self):
        with self.assertRaises(AttributeError):
            Prices().rows = ()


if __name__ == "__main__":
    unittest.main()
