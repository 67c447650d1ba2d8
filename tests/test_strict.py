"""Strictest rules, and which of them bars a plan."""

import itertools
import unittest

from cornerplans.errors import BadPlan, NoPlans
from cornerplans.plans import Plans, plans_of
from cornerplans.rules import Book
from cornerplans.strict import bar, strictest
from tests.helper import Case, any_values, grid, is_made, keeps, some_books
from tests.test_moments import WRONG
from tests.test_plans import BOOK, some_plans

FAR = 10 ** 9
WAITS = [-2, -1, 0, 1, 2]
SIZES = {1: range(5), 2: range(5), 3: range(4), 4: range(3)}
# Waits that go beyond all differences of moments of the small plans that are looked at here.
SPAN = range(-5, 6)


def plain_rules(things, waits=SPAN):
    """All plain rules of the things with these waits."""
    for name in things:
        others = [other for other in things if other != name]
        for right in grid(others, waits):
            yield (((name, 0),), right)


def weaker(rule):
    """The rules that it becomes with one wait less by one, or with one pair left out."""
    left, right = rule
    for at, (name, wait) in enumerate(right):
        yield (left, right[:at] + ((name, wait - 1),) + right[at + 1:])
        yield (left, right[:at] + right[at + 1:])


def holds(makers, rule):
    """All made plans keep a rule if the makers do, as it stays kept by putting off and joining."""
    return all(keeps(maker, rule) for maker in makers)


def small_plans(seed, many, things):
    """Plans of books of rules, and of plans by chance, and without makers and of one maker among them."""
    books = some_books(seed, many, list(things), WAITS, 5)
    plans = [plans_of(book) for book in books] + [plans for _, plans in some_plans(seed, many, list(things))]
    some = [part for part in plans if all(moment > -5 for maker in part for _, moment in maker)]
    return [Plans(list(things))] + [Plans(part.things, part.makers[:1]) for part in some[:4]] + some


class Strictest(Case):
    def test_by_hand(self):
        for things, made, rules in [
            (["a"], [], [((("a", 0),), ())]),
            (["a"], [(("a", 3),)], []),
            (["a", "b"], [], [((("a", 0),), ()), ((("b", 0),), ())]),
            (["a", "b"], [(("a", 0),)], [((("b", 0),), ())]),
            (["a", "b"], [(("a", 0),), (("b", 0),)], []),
            (["a", "b"], [(("a", 0), ("b", 5))], [((("a", 0),), (("b", -5),)), ((("b", 0),), (("a", 5),))]),
            (["a", "b"], [(("a", 0), ("b", 5)), (("b", 0),)], [((("a", 0),), (("b", -5),))]),
            (
                ["a", "b", "c"],
                [(("a", 0), ("b", 0)), (("a", 0), ("c", -1)), (("b", 0),), (("c", 0),)],
                [((("a", 0),), (("b", 0), ("c", 1)))],
            ),
            (["a", "b"], [(("a", FAR), ("b", -FAR)), (("a", 0),)], [((("b", 0),), (("a", -2 * FAR),))]),
        ]:
            self.same(strictest(Plans(things, made)), rules)
            self.same(strictest(plans=Plans(things, made)), rules)
        self.same(
            strictest(plans_of(BOOK)),
            [((("frame", 0),), (("roof", -2),)), ((("roof", 0),), (("frame", 9),))],
        )

    def test_two_ways_at_one_right_side(self):
        made = [(("a", 0), ("b", 0), ("c", 5)), (("a", 0), ("b", 5), ("c", 0)), (("b", 0),), (("c", 0),)]
        self.same(
            strictest(Plans(["a", "b", "c"], made)),
            [((("a", 0),), (("b", -5), ("c", -5))), ((("a", 0),), (("b", 0),)), ((("a", 0),), (("c", 0),))],
        )

    def test_each_is_strictest_and_there_are_no_others(self):
        for seed, things, many in [(31, "a", 10), (32, "ab", 40), (33, "abc", 25), (34, "abcd", 2)]:
            for plans in small_plans(seed, many, things):
                makers = plans.makers
                wanted = [
                    rule
                    for rule in plain_rules(things)
                    if holds(makers, rule) and not any(holds(makers, other) for other in weaker(rule))
                ]
                self.same(strictest(plans), sorted(wanted))

    def test_four_things(self):
        for plans in small_plans(35, 30, "abcd"):
            rules, makers = strictest(plans), plans.makers
            self.assertEqual(rules, sorted(set(rules)))
            for rule in rules:
                (left,), right = rule
                self.assertEqual(left[1], 0)
                self.assertNotIn(left[0], dict(right))
                self.assertTrue(holds(makers, rule))
                self.assertFalse(any(holds(makers, other) for other in weaker(rule)))

    def test_all_made_plans_keep_them(self):
        for plans in small_plans(36, 20, "abc"):
            made = [plan for plan in grid("abc", SIZES[3]) if plan in plans]
            for rule, plan in itertools.product(strictest(plans), made):
                self.assertTrue(keeps(plan, rule))

    def test_new_lists(self):
        plans = plans_of(BOOK)
        strictest(plans).clear()
        self.same(len(strictest(plans)), 2)
        self.assertIsNot(strictest(plans), strictest(plans))

    def test_wrong(self):
        for value in any_values() + [(), []]:
            if not isinstance(value, Plans):
                self.fails(NoPlans("."), strictest, value)


class Bar(Case):
    def test_by_hand(self):
        plans = plans_of(BOOK)
        for plan, answer in [
            ((), None),
            ((("frame", 0), ("roof", 2)), None),
            ((("frame", 0), ("roof", 9)), None),
            ((("frame", 0), ("roof", 1)), ((("frame", 0),), (("roof", -2),))),
            ((("frame", 0), ("roof", 10)), ((("roof", 0),), (("frame", 9),))),
            ((("frame", 0),), ((("frame", 0),), (("roof", -2),))),
            ((("roof", 0),), ((("roof", 0),), (("frame", 9),))),
        ]:
            self.same(bar(plans, plan), answer)
            self.same(bar(plans=plans, plan=plan), answer)
        self.same(bar(Plans(["a", "b"]), (("a", 1), ("b", 1))), ((("a", 0),), ()))
        self.same(bar(Plans(["a", "b"]), (("b", 1),)), ((("b", 0),), ()))

    def test_plain_look_at_plans(self):
        for seed, things, many in [(37, "a", 8), (38, "ab", 30), (39, "abc", 12), (40, "abcd", 3)]:
            for plans in small_plans(seed, many, things):
                rules, makers = strictest(plans), plans.makers
                for plan in grid(things, SIZES[len(things)]):
                    broken = [rule for rule in rules if not keeps(plan, rule)]
                    answer = bar(plans, plan)
                    self.same(answer, broken[0] if broken else None)
                    self.same(answer is None, is_made(plan, makers))
                    self.same(answer is None, plan in plans)

    def test_plain_look_at_books(self):
        for seed, things, many, most in [(41, "ab", 20, 12), (42, "abc", 12, 6), (43, "abcd", 5, 3)]:
            for book in some_books(seed, many, list(things), WAITS, most):
                plans = plans_of(book)
                for plan in grid(things, SIZES[len(things)]):
                    self.same(bar(plans, plan) is None, all(keeps(plan, rule) for rule in book.rules))

    def test_far_moments(self):
        plans = plans_of(Book(["a", "b"], [((("a", FAR),), (("b", -FAR),))]))
        self.same(bar(plans, (("a", 0), ("b", 2 * FAR))), None)
        self.same(bar(plans, (("a", 1), ("b", 2 * FAR))), ((("a", 0),), (("b", -2 * FAR),)))

    def test_wrong(self):
        plans = plans_of(BOOK)
        for value in any_values() + [(), []]:
            if not isinstance(value, Plans):
                self.fails(NoPlans("."), bar, value, ())
                self.fails(NoPlans("."), bar, value, None)
        for plan in WRONG + [(("a", 0),), (("frame", 0), ("room", 0))]:
            self.fails(BadPlan("."), bar, plans, plan)
            self.fails(BadPlan("."), bar, Plans(["b"]), plan)


if __name__ == "__main__":
    unittest.main()
