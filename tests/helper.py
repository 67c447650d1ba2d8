"""What the tests share: any values, grids of plans, plain looks at rules, and checks of errors."""

import inspect
import itertools
import random
import unittest

from cornerplans.days import Box
from cornerplans.desk import Desk
from cornerplans.errors import BadPlan, BadPlans
from cornerplans.house import House
from cornerplans.late import Forecast
from cornerplans.offers import Offer
from cornerplans.plans import Plans
from cornerplans.prices import Prices, Row
from cornerplans.rounds import RoundBook
from cornerplans.rules import Book
from cornerplans.turns import Turns
from cornerplans.words import Words


def nested(depth, inner, wrap):
    """A value that wrap has put into another one so many times."""
    value = inner
    for _ in range(depth):
        value = wrap(value)
    return value


def objects():
    """Objects of the package."""
    return [
        Book(["a", "b"], [((("a", 0),), (("b", 1),))]),
        Plans(["a", "b"], [(("a", 0), ("b", -1))]),
        Box(),
        Box("a", (1, 2)),
        Row(Box("a"), 3),
        Prices([Row(Box(), 1)]),
        Words(["newest"]),
        Offer(["a", "b"], {"a": [((None, None), 1)], "b": [((None, 0), None), ((1, None), 2)]}),
        Forecast([Offer(["a"], {"a": [((None, None), 1)]})]),
        RoundBook(["a", "b"], [((("a", 0, 1),), (("b", 1, 0),))]),
        Turns(2, {"a": (1, None)}),
        House(Book(["a", "b"]), Words(["newest"])),
        Desk("things a\nwords\nouts -\nday 0\n"),
        BadPlan("a message"),
        BadPlans(3),
    ]


def others_than(kind, error):
    """Any values that are not of this kind, each with the error that is due."""
    return [(value, error) for value in any_values() + [(), []] if not isinstance(value, kind)]


def no_numbers(error):
    """Any values that are no numbers, each with the error that is due."""
    values = any_values() + [(), []]
    return [(value, error) for value in values if isinstance(value, bool) or not isinstance(value, int)]


def deep_values():
    """Values that are nested 12 levels deep."""
    wraps = (
        lambda value: [value],
        lambda value: (value,),
        lambda value: (value, value),
        lambda value: ("a", value),
        lambda value: (("a", value),),
        lambda value: {"a": value},
    )
    return [nested(12, inner, wrap) for wrap in wraps for inner in (0, None, True, "a", (), [])]


def any_values():
    """Values of all kinds, none of which is a plan, a limit, a rule, a stretch or a list of things."""
    plain = [
        True, False, None, 0, 1, -1, 7, 12, 10 ** 9, -10 ** 9, 10 ** 5000, -10 ** 5000,
        "", "a", "ab", "abcdef", "abcdefg", "A", "newest", "a+1", "0",
        [None], [0], [True], [[]], [()], ["A"], [["a"]], [None, None], ["a", 1], [("a", 1)], {}, {"a": 1}, {1: 2},
        (0,), (None,), ("a",), ("a", 1), ("a", 1, 2), (1, 2, 3), (True, True), (("a", 1), 1), (1, "a"), ((),),
        ("",), (None, "a"), (["a", 1],), (("a",),), (("a", 1, 2),), (("A", 1),), (("a", "b"),), ([], []),
    ]
    return plain + deep_values() + objects()


def grid(things, moments):
    """All plans of these things with these moments."""
    rows = itertools.product(*[[None, *moments] for _ in things])
    return [tuple((name, at) for name, at in zip(sorted(things), row) if at is not None) for row in rows]


def keeps(plan, rule):
    """A plain look: each thing at the left that comes has one at the right that comes no sooner."""
    left, right = rule
    moments = dict(plan)
    return all(
        any(other in moments and moments[other] + more >= moments[name] + wait for other, more in right)
        for name, wait in left
        if name in moments
    )


def fits(plan, other):
    """A plain look: each thing of a plan comes in the other one, no sooner."""
    moments = dict(other)
    return all(name in moments and moment <= moments[name] for name, moment in plan)


def is_made(plan, makers):
    """A plain look: each thing is at its moment in some maker that is put off, or ahead, within the plan."""
    def is_reached(name, moment):
        for maker in makers:
            at = dict(maker).get(name)
            if at is not None and fits([(one, when + moment - at) for one, when in maker], plan):
                return True
        return False

    return all(is_reached(name, moment) for name, moment in plan)


def some_side(chance, things, waits, least=0):
    """A side of some of the things, by chance."""
    many = chance.randint(least, len(things))
    return tuple((name, chance.choice(waits)) for name in sorted(chance.sample(sorted(things), many)))


def some_books(seed, many, things, waits, most=12):
    """Books by chance, but the same ones for each seed."""
    chance = random.Random(seed)
    books = []
    for _ in range(many):
        size = chance.randint(0, most)
        rules = [(some_side(chance, things, waits), some_side(chance, things, waits)) for _ in range(size)]
        books.append(Book(things, rules))
    return books


def some_fare(chance, turns, prices, most=4):
    """A fare by chance that turns on some of these days."""
    days = sorted(chance.sample(list(turns), chance.randint(0, min(most - 1, len(turns)))))
    fare = []
    for first, last in zip([None, *days], [day - 1 for day in days] + [None]):
        price = chance.choice(prices)
        if fare and fare[-1][1] == price:
            first = fare.pop()[0][0]
        fare.append(((first, last), price))
    return fare


def some_offer(chance, things, turns, prices=(None, 0, 1, 2, 3), outs=(None, None, 0, 1, 2), most=4):
    """An offer by chance."""
    fares = {name: some_fare(chance, turns, prices, most) for name in things}
    return Offer(list(things), fares, {name: chance.choice(outs) for name in things})


def some_made(chance, things, moments, most):
    """The plans that are made of a few plans by chance."""
    return Plans(list(things), [some_side(chance, things, moments, 1) for _ in range(chance.randint(0, most))])


def is_inside(day, stretch):
    """A plain look: whether a day is in a stretch."""
    first, last = stretch
    return (first is None or first <= day) and (last is None or day <= last)


def worth_on(fare, day):
    """A plain look: the price on a day."""
    (price,) = [price for stretch, price in fare if is_inside(day, stretch)]
    return price


def worth_of(offer, plan):
    """A plain look: the price of a plan."""
    moments, fares, outs = dict(plan), offer.fares, offer.outs
    parts = [worth_on(fares[name], moments[name]) if name in moments else outs[name] for name in offer.things]
    return None if None in parts else sum(parts)


def is_room(one, other):
    """A plain look: whether a limit is within another one, None being no end."""
    ends = dict(other)
    return all(name in ends and (ends[name] is None or (end is not None and end <= ends[name])) for name, end in one)


def priced_plans(plans, offer, window):
    """All made plans with moments of a window that have a price, with it."""
    rows = [(plan, worth_of(offer, plan)) for plan in grid(plans.things, window)]
    return [(plan, price) for plan, price in rows if price is not None and is_made(plan, plans.makers)]


def least_of(prices):
    """The least of some numbers, None if there are none."""
    return min(prices, default=None)


def strictly(value):
    """A text by which values are told apart, also True and 1, and lists and tuples."""
    return repr(value)


class Case(unittest.TestCase):
    """A test case that looks at errors, and at values strictly."""

    def same(self, one, other):
        """Equal, and of one kind at every depth. Sets are not compared so: their texts have no order."""
        self.assertNotIsInstance(one, set)
        self.assertEqual(one, other)
        self.assertEqual(strictly(one), strictly(other))

    def fails(self, wanted, call, *given, **named):
        """The call raises an error of just this class with just these attributes."""
        with self.assertRaises(type(wanted)) as caught:
            call(*given, **named)
        self.assertIs(type(caught.exception), type(wanted))
        told, due = vars(caught.exception), vars(wanted)
        self.assertEqual(sorted(told), sorted(due))
        for name in due:
            self.assertIs(type(told[name]), type(due[name]))
            self.assertEqual(told[name], due[name])

    def judged(self, call, good, bad):
        """Wrong arguments are refused, by position and by name, the first one of several being told: for each
        parameter bad has pairs of a value and its error."""
        names = list(inspect.signature(call).parameters)
        call(*good)
        for at, rows in enumerate(bad):
            behind = [pairs[0][0] if pairs else kept for pairs, kept in zip(bad[at + 1:], good[at + 1:])]
            for value, error in rows:
                self.fails(error, call, *good[:at], value, *good[at + 1:])
                self.fails(error, call, *good[:at], value, *behind)
                self.fails(error, call, **dict(zip(names, [*good[:at], value, *good[at + 1:]])))

    def unequal_to_others(self, thing):
        """The object is equal to no value of another kind."""
        for value in [None, 0, True, "a", (), [], {}] + objects():
            if type(value) is not type(thing):
                self.assertFalse(thing == value)
                self.assertFalse(value == thing)
                self.assertTrue(thing != value)

    def not_iterated(self, thing):
        """The object cannot be iterated over."""
        with self.assertRaises(TypeError):
            iter(thing)
        with self.assertRaises(TypeError):
            list(thing)
        with self.assertRaises(TypeError):
            for _ in thing:
                pass
