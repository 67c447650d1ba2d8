"""Fewest choices, compared with a look at all choices."""

import itertools
import random
import unittest

from cornerplans.covers import fewest_for
from tests.helper import Case


def fewest_by_hand(lots):
    """A plain look at all choices of indexes, fewer first."""
    indexes = sorted({at for lot in lots for at in lot})
    for many in range(len(indexes) + 1):
        for chosen in itertools.combinations(indexes, many):
            if all(any(at in lot for at in chosen) for lot in lots):
                return many


class Fewest(Case):
    def test_by_hand(self):
        for lots, many in [
            ([], 0),
            ([(0,)], 1),
            ([(0,), (0,), (0, 1)], 1),
            ([(0,), (1,)], 2),
            ([(0, 1), (1, 2), (0, 2)], 2),
            ([(0, 1), (2, 3), (1, 2)], 2),
            ([(0, 1), (2, 3), (4, 5), (1, 3), (3, 5), (1, 5)], 3),
            ([(0, 1, 2), (2, 3, 4), (4, 5, 0), (1, 3, 5)], 2),
            ([pair for pair in itertools.combinations(range(6), 2)], 5),
            ([(9, 3, 1), (1,), (3, 9)], 2),
            ([(0, 1), (0, 1, 2), (2, 3), (3, 4), (4, 5), (5, 2)], 3),
        ]:
            self.same(fewest_for(lots), many)

    def test_plain_look(self):
        chance = random.Random(1)
        for _ in range(400):
            many = chance.randint(1, 9)
            sizes = [chance.randint(1, min(4, many)) for _ in range(chance.randint(0, 14))]
            lots = [tuple(chance.sample(range(many), size)) for size in sizes]
            self.same(fewest_for(lots), fewest_by_hand(lots))

    def test_large_ones(self):
        # Lines and columns of a board: as many indexes as there are lines are needed, and are enough.
        lots = [tuple(range(line * 12, line * 12 + 12)) for line in range(12)]
        lots += [tuple(range(column, 144, 12)) for column in range(12)]
        self.same(fewest_for(lots), 12)
        # Neighbours on a ring: each index is in two lots.
        self.same(fewest_for([(at, (at + 1) % 41) for at in range(41)]), 21)
        self.same(fewest_for([(at, (at + 1) % 41, (at + 2) % 41) for at in range(41)]), 14)

    def test_what_is_passed_stays(self):
        lots = [(2, 1), (1,), (2, 1)]
        self.same(fewest_for(lots), 1)
        self.same(lots, [(2, 1), (1,), (2, 1)])


if __name__ == "__main__":
    unittest.main()
