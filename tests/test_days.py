"""Stretches and boxes."""

import itertools
import unittest

from cornerplans.days import Box, in_stretch, is_stretch
from cornerplans.errors import BadBox, BadNumber, BadStretch
from tests.helper import Case, any_values, deep_values, objects

HUGE = 10 ** 5000
NO_STRETCHES = [
    (), (1,), (1, 2, 3), [1, 2], [None, None], (2, 1), (0, -1), (HUGE, -HUGE), (True, 2), (1, True), (False, None),
    (None, False), (True, True), ("1", 2), (1, "2"), ((1, 2), 3), (None,), (None, None, None), ((None, None),), "12",
    {1: 2, 3: 4}, ([], []), ({}, None), (1, [2]), None, 3,
]
NO_WORKS = [0, 1, True, False, "", "abcdefg", "A", "a1", "a b", ("a",), ["a"], {}, (), "\u00e4", (None,)]
ENDS = [None, -1, 0, 1]
STRETCHES = [
    (first, last) for first in ENDS for last in ENDS if first is None or last is None or first <= last
]
PAIRS = [(work, day) for work in ("a", "b", "c") for day in range(-4, 5)]


class Stretches(Case):
    def test_stretches(self):
        for stretch in [(1, 1), (1, 2), (-2, -1), (None, 0), (0, None), (None, None), (-HUGE, HUGE), (HUGE, HUGE)]:
            self.assertIs(is_stretch(stretch), True)
            self.assertIs(is_stretch(thing=stretch), True)

    def test_no_stretches(self):
        for thing in NO_STRETCHES + deep_values() + objects():
            self.assertIs(is_stretch(thing), False)
        for value in deep_values() + objects():
            self.assertIs(is_stretch((value, None)), False)
            self.assertIs(is_stretch((None, value)), False)
            self.assertIs(is_stretch((value, value)), False)

    def test_in_stretch(self):
        for stretch, inside, outside in [
            ((2, 4), [2, 3, 4], [1, 5, -3, HUGE, -HUGE]),
            ((2, 2), [2], [1, 3]),
            ((None, 4), [4, 3, -HUGE], [5, HUGE]),
            ((2, None), [2, 3, HUGE], [1, -HUGE]),
            ((None, None), [0, HUGE, -HUGE], []),
            ((-HUGE, HUGE), [0, HUGE, -HUGE], [HUGE + 1, -HUGE - 1]),
        ]:
            for day in inside:
                self.assertIs(in_stretch(day, stretch), True)
            for day in outside:
                self.assertIs(in_stretch(day=day, stretch=stretch), False)

    def test_wrong(self):
        for day in (None, True, False, "1", (1,), [1], {}, Box()):
            self.fails(BadNumber("."), in_stretch, day, (None, None))
            self.fails(BadNumber("."), in_stretch, day, None)
        for stretch in NO_STRETCHES + deep_values() + objects():
            self.fails(BadStretch("."), in_stretch, 1, stretch)


class Boxes(Case):
    def test_parts(self):
        for box, work, days in [
            (Box(), None, (None, None)),
            (Box("frame"), "frame", (None, None)),
            (Box(None, (1, 2)), None, (1, 2)),
            (Box("a", (3, None)), "a", (3, None)),
            (Box(days=(None, 7)), None, (None, 7)),
            (Box(days=(7, 7), work="b"), "b", (7, 7)),
        ]:
            self.same((box.work, box.days), (work, days))

    def test_wrong(self):
        for work in NO_WORKS + deep_values() + objects():
            self.fails(BadBox("work"), Box, work)
            self.fails(BadBox("work"), Box, work, (2, 1))
            self.fails(BadBox("work"), Box, work=work)
        for days in NO_STRETCHES + deep_values() + objects():
            self.fails(BadBox("days"), Box, "a", days)
            self.fails(BadBox("days"), Box, days=days)

    def test_in(self):
        box = Box("a", (1, 2))
        for pair, answer in [
            (("a", 1), True), (("a", 2), True), (("a", 0), False), (("a", 3), False), (("b", 1), False),
            (("a", True), False), (["a", 1], False), (("a", 1, 1), False), ((None, 1), False), ((1, "a"), False),
        ]:
            self.assertIs(pair in box, answer)
        self.assertIs(("zzzzzz", HUGE) in Box(), True)
        self.assertIs(("a", -HUGE) in Box("a"), True)

    def test_in_for_any_value(self):
        values = any_values() + [(), []]
        for box in (Box(), Box("a"), Box(None, (1, 2)), Box("a", (0, 1))):
            for value in values:
                if not value == ("a", 1) or isinstance(value, list):
                    self.assertIs(value in box, False)
            for value in NO_WORKS + deep_values() + [None]:
                self.assertIs((value, 1) in box, False)
            for value in deep_values() + [None, True, False, "1", [1], (1,)]:
                self.assertIs(("a", value) in box, False)

    def test_and(self):
        for one, other, both in [
            (Box(), Box(), Box()),
            (Box("a"), Box(), Box("a")),
            (Box(), Box("a"), Box("a")),
            (Box("a"), Box("b"), None),
            (Box("a", (1, 5)), Box("a", (3, 9)), Box("a", (3, 5))),
            (Box("a", (1, 5)), Box(None, (5, None)), Box("a", (5, 5))),
            (Box("a", (1, 5)), Box(None, (6, None)), None),
            (Box("a", (None, 5)), Box("a", (None, 3)), Box("a", (None, 3))),
            (Box(None, (2, None)), Box(None, (None, 2)), Box(None, (2, 2))),
            (Box(None, (3, None)), Box(None, (None, 2)), None),
            (Box(None, (3, None)), Box(None, (4, None)), Box(None, (4, None))),
        ]:
            for answer in (one & other, other & one):
                if both is None:
                    self.assertIsNone(answer)
                else:
                    self.same((answer.work, answer.days), (both.work, both.days))

    def test_all_of_a_grid(self):
        boxes = [Box(work, days) for work in (None, "a", "b") for days in STRETCHES]
        for one, other in itertools.product(boxes, boxes):
            pairs, others = [pair for pair in PAIRS if pair in one], [pair for pair in PAIRS if pair in other]
            both = [pair for pair in pairs if pair in others]
            answer = one & other
            self.assertEqual([] if answer is None else [pair for pair in PAIRS if pair in answer], both)
            self.same(answer is None, both == [])
            self.same(one.is_within(other), both == pairs)
            self.same(one == other, pairs == others)

    def test_is_within(self):
        self.same(Box("a", (1, 2)).is_within(other=Box(None, (1, 2))), True)
        self.same(Box(None, (1, 2)).is_within(Box("a", (1, 2))), False)
        self.same(Box("a").is_within(Box("a", (None, 5))), False)
        self.same(Box("a", (None, 5)).is_within(Box("a")), True)
        for value in any_values() + [(), [], ("a", (1, 2))]:
            if not isinstance(value, Box):
                self.fails(BadBox("other"), Box().is_within, value)

    def test_equality(self):
        box = Box("a", (1, 2))
        self.assertTrue(box == Box("a", (1, 2)))
        self.assertFalse(box != Box("a", (1, 2)))
        for other in (Box("b", (1, 2)), Box(None, (1, 2)), Box("a", (1, 3)), Box("a", (0, 2)), Box("a")):
            self.assertTrue(box != other)
            self.assertFalse(box == other)
        self.unequal_to_others(box)
        self.assertFalse(box == ("a", (1, 2)))

    def test_no_iterating(self):
        self.not_iterated(Box())
        self.not_iterated(Box("a", (1, 2)))

    def test_properties_are_only_read(self):
        for name in ("work", "days"):
            with self.assertRaises(AttributeError):
                setattr(Box(), name, None)


if __name__ == "__main__":
    unittest.main()
