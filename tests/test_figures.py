"""Figures: numbers of any size, written and read."""

import random
import sys
import unittest

from cornerplans.figures import number_of, number_text
from tests.helper import Case

# Python itself refuses to write or read more figures than these at once.
MANY = 9000


def plain_text(number):
    """A plain look: the figures one by one, by twenties."""
    figures, rest = "", abs(number)
    while rest >= 10 ** 20:
        rest, part = divmod(rest, 10 ** 20)
        figures = str(part).zfill(20) + figures
    return ("-" if number < 0 else "") + str(rest) + figures


class Figures(Case):
    def test_small_ones(self):
        for number in [*range(-1200, 1200), 10 ** 9, -10 ** 9, 10 ** 40, -10 ** 40]:
            self.same(number_text(number), str(number))
            self.same(number_of(str(number)), number)

    def test_at_the_ends_of_parts(self):
        for many in (58, 59, 60, 61, 119, 120, 121, 180, 240, 600):
            for number in (10 ** many - 1, 10 ** many, 10 ** many + 1, 7 * 10 ** many + 10 ** (many // 2)):
                for signed in (number, -number):
                    self.same(number_text(signed), str(signed))
                    self.same(number_of(str(signed)), signed)

    def test_large_ones(self):
        chance = random.Random(1)
        for many in (4299, 4300, 4301, 5000, MANY):
            number = chance.randint(10 ** (many - 1), 10 ** many - 1)
            for signed in (number, -number, 10 ** many, -10 ** many):
                text = plain_text(signed)
                self.same(number_text(signed), text)
                self.assertTrue(number_of(text) == signed)
        self.assertLess(getattr(sys, "get_int_max_str_digits", lambda: 4300)(), MANY)

    def test_what_is_no_number(self):
        for text in [
            "", "-", "--1", "+1", "+0", "-0", "00", "01", "-01", "-00", "1-", "1 ", " 1", "1.0", "1_0", "0x1", "a",
            "1a", "\u0661", "\u00b2", "1\n", "\n", "1,0", "0" * 60, "0" + "1" * 60, "-" + "0" * 61, "1" * 60 + "-",
        ]:
            self.same(number_of(text), None)


if __name__ == "__main__":
    unittest.main()
