"""Made plans, and the plans that keep rules."""

import itertools
import random
import unittest

from cornerplans.errors import BadBook, BadPlan, BadPlans, BadRule, NoPlans, OtherThings
from cornerplans.moments import joined, later
from cornerplans.plans import Plans, below, keeping, plans_of
from cornerplans.rules import Book
from tests.helper import Case, any_values, fits, grid, is_made, keeps, objects, some_books, some_side
from tests.test_moments import WRONG

FAR = 10 ** 9
WAITS = [-2, -1, 0, 1, 2]
BOOK = Book(["frame", "roof"], [((("frame", 2),), (("roof", 0),)), ((("roof", 0),), (("frame", 9),))])
# The moments of a grid, by how many things there are.
SIZES = {1: range(6), 2: range(5), 3: range(4), 4: range(3)}


def some_plans(seed, many, things):
    """Lists of plans by chance, but the same ones for each seed."""
    chance = random.Random(seed)
    for _ in range(many):
        made = [some_side(chance, things, [0, 1, 2, 3]) for _ in range(chance.randint(0, 6))]
        yield made, Plans(things, made)


class Makers(Case):
    def test_makers(self):
        for things, made, makers in [
            (["a"], [], []),
            (["a"], [()], []),
            (["a"], [(("a", 7),)], [(("a", 0),)]),
            (["a"], [(("a", 7),), (("a", -7),), ()], [(("a", 0),)]),
            (["a", "b"], [(("b", 3),), (("a", 5),)], [(("a", 0),), (("b", 0),)]),
            (["a", "b"], [(("a", 5), ("b", 7))], [(("a", -2), ("b", 0))]),
            (["a", "b"], [(("a", 5), ("b", 7)), (("a", 9), ("b", 2))], [(("a", -2), ("b", 0)), (("a", 0), ("b", -7))]),
            (
                ["a", "b"],
                [(("a", 0), ("b", -3)), (("a", 0), ("b", 0)), (("a", -4), ("b", 0))],
                [(("a", -4), ("b", 0)), (("a", 0), ("b", -3))],
            ),
            (["a", "b"], [(("a", 0),), (("b", 9),), (("a", 1), ("b", 8))], [(("a", 0),), (("b", 0),)]),
            (["a", "b"], [(("a", 0),), (("a", 1), ("b", 8))], [(("a", -7), ("b", 0)), (("a", 0),)]),
            (["a"], [(("a", 3 * FAR),)], [(("a", 0),)]),
            (["a", "b"], [(("a", -FAR), ("b", FAR))], [(("a", -2 * FAR), ("b", 0))]),
        ]:
            plans = Plans(things, made)
            self.same(plans.makers, makers)
            self.same(Plans(things=tuple(things), made=tuple(made)).makers, makers)
            self.same(list(plans), makers)
            self.same([maker for maker in plans], makers)
            self.same(len(plans), len(makers))

    def test_things_without_makers(self):
        plans = Plans(["b", "a", "c"])
        self.same(plans.things, ("a", "b", "c"))
        self.same((plans.makers, list(plans), len(plans)), ([], [], 0))
        self.assertTrue(() in plans)
        self.assertFalse((("a", 0),) in plans)

    def test_as_the_document_tells(self):
        for things in ("a", "ab", "abc", "abcd"):
            for made, plans in some_plans(3, 60, list(things)):
                makers = plans.makers
                self.assertEqual(makers, sorted(makers))
                self.assertTrue(all(max(moment for _, moment in maker) == 0 for maker in makers))
                for maker in makers:
                    self.assertTrue(is_made(maker, made))
                    self.assertFalse(is_made(maker, [other for other in makers if other != maker]))
                for plan in made:
                    self.assertTrue(is_made(plan, makers))

    def test_there_is_one_list(self):
        chance = random.Random(4)
        for made, plans in some_plans(5, 60, ["a", "b", "c"]):
            more = [joined([later(one, chance.randint(-3, 3)), other]) for one in made for other in made]
            again = [later(plan, chance.randint(-9, 9)) for plan in made] + more + [()]
            chance.shuffle(again)
            self.assertEqual(Plans(["c", "b", "a"], again), plans)
            self.same(Plans(["c", "b", "a"], again).makers, plans.makers)

    def test_new_lists(self):
        plans = plans_of(BOOK)
        plans.makers.append((("roof", 0),))
        plans.makers.clear()
        self.same(plans.makers, [(("frame", -9), ("roof", 0)), (("frame", -2), ("roof", 0))])
        self.assertIsNot(plans.makers, plans.makers)

    def test_later_changes_of_what_was_passed(self):
        things, made = ["b", "a"], [(("a", 1),)]
        plans = Plans(things, made)
        self.same((things, made), (["b", "a"], [(("a", 1),)]))
        things.append("c")
        made.append((("b", 1),))
        self.assertEqual(plans, Plans(["a", "b"], [(("a", 0),)]))

    def test_wrong(self):
        for things in any_values() + [[], ["a", "a"], list("abcde"), ["abcdefg"], {"a": 1}, "a", ["a", None]]:
            if things not in (("a",), ["a"]):
                self.fails(BadBook("things"), Plans, things)
                self.fails(BadBook("things"), Plans, things, None)
                self.fails(BadBook("things"), Plans, things, [None])
        for made in (None, True, 0, "a", {}, {"a": 1}, Plans(["a"], [(("a", 0),)])):
            self.fails(BadPlans(None), Plans, ["a"], made)
        for plan in WRONG + [(("b", 0),), (("a", 0), ("b", 0))]:
            self.fails(BadPlans(0), Plans, ["a"], [plan])
            self.fails(BadPlans(1), Plans, ["a"], ((), plan, None))
        self.fails(BadPlans(0), Plans, ["a"], (("a", 0),))


class In(Case):
    def test_plain_look(self):
        for things in ("a", "ab", "abc", "abcd"):
            for made, plans in some_plans(6, 15, list(things)):
                for plan in grid(things, SIZES[len(things)]):
                    self.same(plan in plans, is_made(plan, made))

    def test_any_value(self):
        free = Plans(["a", "b"], [(("a", 0),), (("b", 0),)])
        for value in WRONG + [(("c", 0),), (("a", 0), ("c", 0)), [], [("a", 0)]]:
            for plans in (free, Plans(["a"], [(("a", 0),)]), Plans(["a"])):
                self.assertIs(value in plans, False)
        self.assertTrue(() in free)
        self.assertTrue((("a", 10 ** 5000), ("b", -10 ** 5000)) in free)
        self.assertTrue((("a", 5),) in free)

    def test_far_moments(self):
        plans = Plans(["a", "b"], [(("a", FAR), ("b", -FAR))])
        self.assertTrue((("a", 4 * FAR), ("b", 2 * FAR)) in plans)
        self.assertFalse((("a", 4 * FAR), ("b", 2 * FAR + 1)) in plans)


class Comparing(Case):
    def test_equality(self):
        plans = Plans(["a", "b"], [(("a", 0), ("b", 1)), (("a", 1), ("b", 0))])
        same = Plans(("b", "a"), [(("a", 5), ("b", 4)), (("a", 3), ("b", 3)), (("a", 0), ("b", 1))])
        self.assertTrue(plans == same)
        self.assertFalse(plans != same)
        for other in (
            Plans(["a", "b"]),
            Plans(["a", "b"], [(("a", 0), ("b", 1))]),
            Plans(["a", "b", "c"], plans.makers),
            Plans(["a", "b"], [(("a", 0), ("b", 1)), (("a", 2), ("b", 0))]),
        ):
            self.assertTrue(plans != other)
            self.assertFalse(plans == other)
        self.unequal_to_others(plans)

    def test_is_part_of(self):
        one, two = (("a", 0), ("b", 1)), (("a", 1), ("b", 0))
        both, first, none = Plans(["a", "b"], [one, two]), Plans(["a", "b"], [one]), Plans(["a", "b"])
        free = Plans(["a", "b"], [(("a", 0),), (("b", 0),)])
        for part, whole, answer in [
            (both, both, True), (first, both, True), (both, first, False), (none, both, True), (none, none, True),
            (first, none, False), (both, free, True), (free, both, False),
        ]:
            self.same(part.is_part_of(whole), answer)
            self.same(part.is_part_of(other=whole), answer)

    def test_is_part_of_plain_look(self):
        chosen = list(some_plans(7, 12, ["a", "b", "c"]))
        for (made, one), (others, other) in itertools.product(chosen, chosen):
            self.same(one.is_part_of(other), all(is_made(plan, others) for plan in made))

    def test_is_part_of_wrong(self):
        plans = Plans(["a", "b"])
        for value in any_values() + [[], ()]:
            if not isinstance(value, Plans):
                self.fails(NoPlans("."), plans.is_part_of, value)
        for things in (["a"], ["a", "c"], ["a", "b", "c"]):
            self.fails(OtherThings("."), plans.is_part_of, Plans(things))

    def test_properties_are_only_read(self):
        for name in ("things", "makers"):
            with self.assertRaises(AttributeError):
                setattr(Plans(["a"]), name, ())


class PlansOf(Case):
    def test_by_hand(self):
        free = Book(["a", "b"])
        self.same(plans_of(free).makers, [(("a", 0),), (("b", 0),)])
        self.same(plans_of(book=BOOK).makers, [(("frame", -9), ("roof", 0)), (("frame", -2), ("roof", 0))])
        for rules, makers in [
            ([((("a", 0),), ())], [(("b", 0),)]),
            ([((("a", 0), ("b", 0)), ())], []),
            ([((), (("a", 0),))], [(("a", 0),), (("b", 0),)]),
            ([((), ())], [(("a", 0),), (("b", 0),)]),
            ([((("a", 0),), (("b", 3),))], [(("a", 0), ("b", -3)), (("b", 0),)]),
            ([((("a", 0),), (("b", -3),))], [(("a", -3), ("b", 0)), (("b", 0),)]),
            ([((("a", 0),), (("a", 0),))], [(("a", 0),), (("b", 0),)]),
            ([((("a", 1),), (("a", 0),))], [(("b", 0),)]),
            ([((("a", 1),), (("a", 0), ("b", -4)))], [(("a", -5), ("b", 0)), (("b", 0),)]),
            ([((("a", FAR),), (("b", -FAR),))], [(("a", -2 * FAR), ("b", 0)), (("b", 0),)]),
            ([((("a", 0),), (("b", 0),)), ((("b", 1),), (("a", 0),))], []),
        ]:
            plans = plans_of(Book(["a", "b"], rules))
            self.same(plans.things, ("a", "b"))
            self.same(plans.makers, makers)

    def test_two_at_the_right(self):
        plans = plans_of(Book(["a", "b", "c"], [((("a", 0),), (("b", 0), ("c", 1)))]))
        self.same(plans.makers, [(("a", 0), ("b", 0)), (("a", 0), ("c", -1)), (("b", 0),), (("c", 0),)])

    def test_far_waits_round_a_ring(self):
        ring = [((("a", FAR),), (("b", 0),)), ((("b", FAR),), (("c", 0),)), ((("c", FAR),), (("d", 0),))]
        plans = plans_of(Book(list("abcd"), ring))
        self.assertTrue((("a", 0), ("b", FAR), ("c", 2 * FAR), ("d", 3 * FAR)) in plans)
        self.assertFalse((("a", 1), ("b", FAR), ("c", 2 * FAR), ("d", 3 * FAR)) in plans)
        self.same(plans.makers[0], (("a", -3 * FAR), ("b", -2 * FAR), ("c", -FAR), ("d", 0)))

    def test_plain_look_at_books(self):
        for seed, things, many, most in [(8, "a", 25, 12), (9, "ab", 60, 12), (10, "abc", 60, 12), (11, "abcd", 30, 4)]:
            plans = grid(things, SIZES[len(things)])
            for book in some_books(seed, many, list(things), WAITS, most):
                kept = [plan for plan in plans if all(keeps(plan, rule) for rule in book.rules)]
                made = plans_of(book)
                self.assertEqual([plan for plan in plans if plan in made], kept)

    def test_far_books_of_twelve_rules(self):
        chance = random.Random(12)
        waits = [-FAR, FAR, 0, 7, -FAR + 1]
        for book in some_books(13, 30, list("abcd"), waits):
            plans = plans_of(book)
            for maker in plans:
                self.assertTrue(book.keeps(maker))
            for _ in range(40):
                plan = some_side(chance, "abcd", [0, 1, FAR, FAR + 7, -FAR, 2 * FAR])
                self.same(plan in plans, book.keeps(plan))

    def test_closed_under_putting_off_and_joining(self):
        for book in some_books(14, 30, ["a", "b", "c"], WAITS, 5):
            kept = [plan for plan in grid("abc", [0, 1, 2]) if book.keeps(plan)]
            for one, other in itertools.product(kept[:12], kept[-12:]):
                self.assertTrue(book.keeps(joined([later(one, 5), other])))
                self.assertTrue(joined([one, later(other, -1)]) in plans_of(book))

    def test_wrong(self):
        for value in any_values() + [(), []]:
            if not isinstance(value, Book):
                self.fails(BadBook(None), plans_of, value)


class Below(Case):
    def test_by_hand(self):
        plans = plans_of(BOOK)
        for plan, answer in [
            ((), ()),
            ((("frame", 3),), ()),
            ((("roof", 3),), ()),
            ((("frame", 3), ("roof", 5)), (("frame", 3), ("roof", 5))),
            ((("frame", 3), ("roof", 4)), (("frame", 2), ("roof", 4))),
            ((("frame", 3), ("roof", 40)), (("frame", 3), ("roof", 12))),
            ((("frame", FAR), ("roof", -FAR)), (("frame", -FAR - 2), ("roof", -FAR))),
        ]:
            self.same(below(plans, plan), answer)
            self.same(below(plans=plans, plan=plan), answer)
        self.same(below(Plans(["a"]), (("a", 3),)), ())

    def test_plain_look(self):
        for seed, things, many, most in [(15, "a", 10, 3), (16, "ab", 40, 12), (17, "abc", 30, 12), (18, "abcd", 6, 3)]:
            plans = grid(things, SIZES[len(things)])
            for book in some_books(seed, many, list(things), WAITS, most):
                kept = [plan for plan in plans if all(keeps(plan, rule) for rule in book.rules)]
                made = plans_of(book)
                for plan in plans:
                    greatest = below(made, plan)
                    self.assertTrue(fits(greatest, plan))
                    self.assertTrue(all(keeps(greatest, rule) for rule in book.rules))
                    self.assertTrue(all(fits(other, greatest) for other in kept if fits(other, plan)))

    def test_wrong(self):
        plans = plans_of(BOOK)
        for value in any_values() + [(), []]:
            if not isinstance(value, Plans):
                self.fails(NoPlans("."), below, value, ())
                self.fails(NoPlans("."), below, value, None)
        for plan in WRONG + [(("a", 0),), (("frame", 0), ("room", 0)), (("frame", 0), ("roof", None))]:
            self.fails(BadPlan("."), below, plans, plan)


class Keeping(Case):
    def test_by_hand(self):
        free = plans_of(Book(["a", "b"]))
        rule = ((("a", 0),), (("b", 3),))
        self.assertEqual(keeping(free, rule), Plans(["a", "b"], [(("a", 3), ("b", 0)), (("b", 0),)]))
        self.assertEqual(keeping(plans=free, rule=rule), plans_of(Book(["a", "b"], [rule])))
        self.same(free.makers, [(("a", 0),), (("b", 0),)])
        one = Plans(["a", "b"], [(("a", 0), ("b", 5))])
        self.assertEqual(keeping(one, rule), one)
        self.assertEqual(keeping(one, ((("b", 0),), (("a", 4),))), Plans(["a", "b"]))
        self.assertEqual(keeping(Plans(["a"]), ((), ())), Plans(["a"]))

    def test_plain_look(self):
        chance = random.Random(19)
        for things in ("ab", "abc", "abcd"):
            for made, plans in some_plans(20, 25, list(things)):
                rule = (some_side(chance, things, WAITS), some_side(chance, things, WAITS))
                kept = keeping(plans, rule)
                self.assertEqual(kept.things, plans.things)
                for plan in grid(things, SIZES[len(things)]):
                    self.same(plan in kept, is_made(plan, made) and keeps(plan, rule))

    def test_order_of_rules_has_no_meaning(self):
        for book in some_books(21, 40, list("abcd"), WAITS, 6):
            again = Book(book.things, book.rules[::-1] + book.rules)
            self.assertEqual(plans_of(book), plans_of(again))

    def test_wrong(self):
        plans = plans_of(BOOK)
        for value in any_values() + objects():
            if not isinstance(value, Plans):
                self.fails(NoPlans("."), keeping, value, ((), ()))
                self.fails(NoPlans("."), keeping, value, None)
        for thing in WRONG:
            self.fails(BadRule("."), keeping, plans, (thing, ()))
            self.fails(BadRule("."), keeping, plans, ((), thing))
        for rule in (None, (), [(), ()], ((), (), ()), ((("a", 0),), ()), ((), (("frame", 0), ("room", 1)))):
            self.fails(BadRule("."), keeping, plans, rule)


if __name__ == "__main__":
    unittest.main()
