"""Plans and limits."""

import itertools
import unittest

from cornerplans.errors import BadLimit, BadNumber, BadPlan, BadPlans, BadThing
from cornerplans.moments import is_limit, is_plan, is_within, joined, later, moment_of
from tests.helper import Case, any_values, deep_values, fits, grid

FAR = 10 ** 9
HUGE = 10 ** 5000

PLANS = [
    (),
    (("a", 0),),
    (("a", -3), ("b", 3)),
    (("a", HUGE), ("ab", -HUGE)),
    (("abcdef", 1), ("z", 2), ("zz", 2)),
    tuple((letter, 1) for letter in "abcdefgh"),
]
LIMITS = [
    (("a", None),),
    (("a", None), ("b", 3)),
    (("a", 3), ("b", None)),
    (("abcdef", None), ("z", None)),
]
NEARLY = [
    [],
    [("a", 0)],
    (["a", 0],),
    [["a", 0]],
    ("a", 0),
    (("a", 0), "b"),
    (("a", 0), ["b", 1]),
    (("b", 0), ("a", 0)),
    (("a", 0), ("a", 0)),
    (("a", 0), ("a", 1)),
    (("a", 0), ("b", 1), ("b", 2)),
    (("", 0),),
    (("abcdefg", 0),),
    (("A", 0),),
    (("aB", 0),),
    (("a1", 0),),
    (("a b", 0),),
    (("a\n", 0),),
    (("\u00e4", 0),),
    (("\u00df", 0),),
    (("_", 0),),
    (("a", True),),
    (("a", False),),
    (("a", 0), ("b", True)),
    (("a", "0"),),
    (("a", (0,)),),
    (("a", [0]),),
    (("a",),),
    (("a", 0, 0),),
    ((0, "a"),),
    ((None, 0),),
    ((True, 0),),
    ((("a",), 0),),
    ((["a"], 0),),
    (({}, 0),),
    ((),),
    (None,),
    {"a": 0},
    {},
]
# What is no plan at all, whatever stands in the place of a plan.
WRONG = NEARLY + LIMITS + any_values()


class Judging(Case):
    def test_plans(self):
        for plan in PLANS:
            self.assertIs(is_plan(plan), True)
            self.assertIs(is_plan(thing=plan), True)

    def test_no_plans(self):
        for thing in WRONG:
            self.assertIs(is_plan(thing), False)

    def test_limits(self):
        for limit in PLANS + LIMITS:
            self.assertIs(is_limit(limit), True)
            self.assertIs(is_limit(thing=limit), True)

    def test_no_limits(self):
        for thing in NEARLY + any_values():
            self.assertIs(is_limit(thing), False)

    def test_deep_values(self):
        for value in deep_values():
            for thing in (value, (value,), (("a", value),), ((value, 0),), (("a", 0), value)):
                self.assertIs(is_plan(thing), False)
                self.assertIs(is_limit(thing), False)

    def test_all_letters(self):
        for letter in "abcdefghijklmnopqrstuvwxyz":
            self.assertTrue(is_plan(((letter, 0),)))
        for number in range(300):
            if not "a" <= chr(number) <= "z":
                self.assertFalse(is_plan(((chr(number), 0),)))
                self.assertFalse(is_plan((("a" + chr(number), 0),)))

    def test_lengths_of_names(self):
        for many in range(10):
            self.assertIs(is_plan((("a" * many, 0),)), 1 <= many <= 6)
            self.assertIs(is_limit((("a" * many, None),)), 1 <= many <= 6)


class MomentOf(Case):
    def test_moment_of(self):
        plan = (("a", 5), ("c", 0))
        self.same(moment_of(plan, "a"), 5)
        self.same(moment_of(plan, "c"), 0)
        self.same(moment_of(plan, "b"), None)
        self.same(moment_of((), "a"), None)
        self.same(moment_of(plan=plan, name="a"), 5)
        self.same(moment_of((("a", FAR),), "a"), FAR)

    def test_wrong(self):
        for plan in WRONG:
            self.fails(BadPlan("."), moment_of, plan, "a")
            self.fails(BadPlan("."), moment_of, plan, None)
        for name in (None, 0, True, "", "abcdefg", "A", ("a",), ["a"], {}, (("a", 0),)):
            self.fails(BadThing(name), moment_of, (("a", 0),), name)


class Later(Case):
    def test_later(self):
        plan = (("a", 5), ("c", 0))
        self.same(later(plan, 3), (("a", 8), ("c", 3)))
        self.same(later(plan, -6), (("a", -1), ("c", -6)))
        self.same(later(plan, 0), plan)
        self.same(later((), 7), ())
        self.same(later(plan=(("a", FAR),), number=FAR), (("a", 2 * FAR),))
        self.same(later((("a", -FAR),), -FAR), (("a", -2 * FAR),))

    def test_wrong(self):
        for plan in WRONG:
            self.fails(BadPlan("."), later, plan, 0)
            self.fails(BadPlan("."), later, plan, None)
        for number in (None, True, False, "1", (1,), [1], {}):
            self.fails(BadNumber("."), later, (("a", 0),), number)
            self.fails(BadNumber("."), later, (), number)


class Joined(Case):
    def test_joined(self):
        self.same(joined([]), ())
        self.same(joined(()), ())
        self.same(joined([()]), ())
        self.same(joined([(("a", 5),)]), (("a", 5),))
        self.same(joined([(("b", 1),), (("a", 2),)]), (("a", 2), ("b", 1)))
        self.same(joined([(("a", 1), ("b", 5)), (("a", 2), ("b", 4)), ()]), (("a", 2), ("b", 5)))
        self.same(joined(plans=((("a", -FAR),), (("a", -2 * FAR),))), (("a", -FAR),))
        self.same(joined([(("a", -1),), (("a", -1), ("c", 0)), (("c", -9),)]), (("a", -1), ("c", 0)))

    def test_least_plan_that_both_are_within(self):
        plans = grid(["a", "b"], [0, 1, 2])
        for one, other in itertools.product(plans, plans):
            both = joined([one, other])
            self.assertTrue(fits(one, both) and fits(other, both))
            for plan in plans:
                self.assertEqual(fits(both, plan), fits(one, plan) and fits(other, plan))

    def test_wrong(self):
        for plans in (None, True, 3, "a", {}, {"a": 1}):
            self.fails(BadPlans(None), joined, plans)
        for plan in WRONG:
            self.fails(BadPlans(0), joined, [plan])
            self.fails(BadPlans(2), joined, [(), (("a", 1),), plan, None])
        self.fails(BadPlans(0), joined, (("a", 1),))

    def test_what_is_passed_stays(self):
        plans = [(("a", 1),), (("b", 2),)]
        joined(plans)
        self.same(plans, [(("a", 1),), (("b", 2),)])


class IsWithin(Case):
    def test_is_within(self):
        for one, other, answer in [
            ((), (), True),
            ((), (("a", 1),), True),
            ((("a", 1),), (), False),
            ((("a", 1),), (("a", 1),), True),
            ((("a", 1),), (("a", 2),), True),
            ((("a", 2),), (("a", 1),), False),
            ((("a", 2),), (("a", None),), True),
            ((("a", FAR),), (("a", None),), True),
            ((("a", None),), (("a", None),), True),
            ((("a", None),), (("a", FAR),), False),
            ((("a", None),), (("b", None),), False),
            ((("a", 1),), (("b", None),), False),
            ((("b", 1),), (("a", 0), ("b", 1), ("c", None)), True),
            ((("a", 1), ("b", 1)), (("a", 1), ("b", 0)), False),
            ((("a", 1), ("b", 1)), (("a", 0), ("b", 1)), False),
            ((("a", 1), ("b", None)), (("a", None), ("b", None)), True),
            ((("a", 0),), (("a", -1),), False),
        ]:
            self.same(is_within(one, other), answer)
            self.same(is_within(one=one, other=other), answer)

    def test_all_of_a_grid(self):
        plans = grid(["a", "b"], [-1, 0, 1])
        for one, other in itertools.product(plans, plans):
            self.same(is_within(one, other), fits(one, other))

    def test_wrong(self):
        for limit in NEARLY + any_values():
            self.fails(BadLimit("."), is_within, limit, ())
            self.fails(BadLimit("."), is_within, (), limit)
            self.fails(BadLimit("."), is_within, limit, limit)


if __name__ == "__main__":
    unittest.main()
