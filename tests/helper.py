"""What the tests share: any values, grids of plans, plain looks at rules, and checks of errors."""

import itertools
import random
import unittest

from cornerplans.days import Box
from cornerplans.errors import BadPlan, BadPlans
from cornerplans.plans import Plans
from cornerplans.prices import Prices, Row
from cornerplans.rules import Book
from cornerplans.words import Words


def nested(depth, inner, wrap):
    """A value that wrap has put into another one so many times."""
    value = inner
    for _ in range(depth):
        value = wrap(value)
    return value


def objects():
    """Objects of the package."""
    return [
        Book(["a", "b"], [((("a", 0),), (("b", 1),))]),
        Plans(["a", "b"], [(("a", 0), ("b", -1))]),
        Box(),
        Box("a", (1, 2)),
        Row(Box("a"), 3),
        Prices([Row(Box(), 1)]),
        Words(["newest"]),
        BadPlan("a message"),
        BadPlans(3),
    ]


def deep_values():
    """Values that are nested 12 levels deep."""
    wraps = (
        lambda value: [value],
        lambda value: (value,),
        lambda value: (value, value),
        lambda value: ("a", value),
        lambda value: (("a", value),),
        lambda value: {"a": value},
    )
    return [nested(12, inner, wrap) for wrap in wraps for inner in (0, None, True, "a", (), [])]


def any_values():
    """Values of all kinds, none of which is a plan, a limit, a rule, a stretch or a list of things."""
    plain = [
        True, False, None, 0, 1, -1, 7, 12, 10 ** 9, -10 ** 9, 10 ** 5000, -10 ** 5000,
        "", "a", "ab", "abcdef", "abcdefg", "A", "newest", "a+1", "0",
        [None], [0], [True], [[]], [()], ["A"], [["a"]], [None, None], ["a", 1], [("a", 1)], {}, {"a": 1}, {1: 2},
        (0,), (None,), ("a",), ("a", 1), ("a", 1, 2), (1, 2, 3), (True, True), (("a", 1), 1), (1, "a"), ((),),
        ("",), (None, "a"), (["a", 1],), (("a",),), (("a", 1, 2),), (("A", 1),), (("a", "b"),), ([], []),
    ]
    return plain + deep_values() + objects()


def grid(things, moments):
    """All plans of these things with these moments."""
    rows = itertools.product(*[[None, *moments] for _ in things])
    return [tuple((name, at) for name, at in zip(sorted(things), row) if at is not None) for row in rows]


def keeps(plan, rule):
    """A plain look: each thing at the left that comes has one at the right that comes no sooner."""
    left, right = rule
    moments = dict(plan)
    return all(
        any(other in moments and moments[other] + more >= moments[name] + wait for other, more in right)
        for name, wait in left
        if name in moments
    )


def fits(plan, other):
    """A plain look: each thing of a plan comes in the other one, no sooner."""
    moments = dict(other)
    return all(name in moments and moment <= moments[name] for name, moment in plan)


def is_made(plan, makers):
    """A plain look: each thing is at its moment in some maker that is put off, or ahead, within the plan."""
    def is_reached(name, moment):
        for maker in makers:
            at = dict(maker).get(name)
            if at is not None and fits([(one, when + moment - at) for one, when in maker], plan):
                return True
        return False

    return all(is_reached(name, moment) for name, moment in plan)


def some_side(chance, things, waits, least=0):
    """A side of some of the things, by chance."""
    many = chance.randint(least, len(things))
    return tuple((name, chance.choice(waits)) for name in sorted(chance.sample(sorted(things), many)))


def some_books(seed, many, things, waits, most=12):
    """Books by chance, but the same ones for each seed."""
    chance = random.Random(seed)
    books = []
    for _ in range(many):
        size = chance.randint(0, most)
        rules = [(some_side(chance, things, waits), some_side(chance, things, waits)) for _ in range(size)]
        books.append(Book(things, rules))
    return books


def strictly(value):
    """A text by which values are told apart, also True and 1, and lists and tuples."""
    return repr(value)


class Case(unittest.TestCase):
    """A test case that looks at errors, and at values strictly."""

    def same(self, one, other):
        """Equal, and of one kind at every depth."""
        self.assertEqual(one, other)
        self.assertEqual(strictly(one), strictly(other))

    def fails(self, wanted, call, *given, **named):
        """The call raises an error of just this class with just these attributes."""
        with self.assertRaises(type(wanted)) as caught:
            call(*given, **named)
        self.assertIs(type(caught.exception), type(wanted))
        told, due = vars(caught.exception), vars(wanted)
        self.assertEqual(sorted(told), sorted(due))
        for name in due:
            self.assertIs(type(told[name]), type(due[name]))
            self.assertEqual(told[name], due[name])

    def unequal_to_others(self, thing):
        """The object is equal to no value of another kind."""
        for value in [None, 0, True, "a", (), [], {}] + objects():
            if type(value) is not type(thing):
                self.assertFalse(thing == value)
                self.assertFalse(value == thing)
                self.assertTrue(thing != value)

    def not_iterated(self, thing):
        """The object cannot be iterated over."""
        with self.assertRaises(TypeError):
            iter(thing)
        with self.assertRaises(TypeError):
            list(thing)
        with self.assertRaises(TypeError):
            for _ in thing:
                pass
