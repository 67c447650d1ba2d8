"""Sides, rules and books."""

import unittest

from cornerplans.errors import BadBook, BadLot, BadPlan, BadRule, BadRules, BadSide, NoRule, TooMany
from cornerplans.rules import Book, is_kept, is_rule, last_of
from tests.helper import Case, any_values, deep_values, grid, keeps, some_books
from tests.test_moments import LIMITS, NEARLY, PLANS, WRONG

FAR = 10 ** 9
AB = ((("a", 2),), (("b", 0),))
BA = ((("b", 0),), (("a", 9),))
NONE_A = ((("a", 0),), ())
C = ((("c", 0),), (("a", 1),))
NO_INDEX = [-1, True, False, None, "0", "a", (), (0,), [0], {}, 10 ** 5000, -10 ** 5000, slice(0, 1)]


class LastOf(Case):
    def test_last_of(self):
        for side, plan, answer in [
            ((), (), None),
            ((("a", 1),), (), None),
            ((), (("a", 1),), None),
            ((("a", 1),), (("b", 1),), None),
            ((("a", 1),), (("a", 4),), 5),
            ((("a", -7),), (("a", 4),), -3),
            ((("a", 1), ("b", 2)), (("a", 4), ("b", 2)), 5),
            ((("a", 1), ("b", 4)), (("a", 4), ("b", 2)), 6),
            ((("a", 99), ("b", 4)), (("b", 2), ("c", 50)), 6),
            ((("a", FAR),), (("a", FAR),), 2 * FAR),
            ((("a", -FAR),), (("a", -FAR),), -2 * FAR),
            ((("a", 0),), (("a", 0),), 0),
        ]:
            self.same(last_of(side, plan), answer)
            self.same(last_of(side=side, plan=plan), answer)

    def test_wrong(self):
        for thing in WRONG:
            self.fails(BadSide("."), last_of, thing, ())
            self.fails(BadSide("."), last_of, thing, None)
            self.fails(BadPlan("."), last_of, (("a", 1),), thing)


class Judging(Case):
    def test_rules(self):
        for left in PLANS:
            for right in PLANS:
                self.assertIs(is_rule((left, right)), True)
                self.assertIs(is_rule(thing=(left, right)), True)

    def test_no_rules(self):
        for thing in NEARLY + LIMITS + any_values():
            self.assertIs(is_rule(thing), False)
            self.assertIs(is_rule((thing, ())), False)
            self.assertIs(is_rule(((), thing)), False)

    def test_nearly_rules(self):
        left, right = AB
        for thing in ([left, right], (left,), (left, right, ()), ((left, right),), (), {0: left, 1: right}):
            self.assertIs(is_rule(thing), False)
        for value in deep_values():
            self.assertIs(is_rule(value), False)
            self.assertIs(is_rule((value, value)), False)
        self.assertIs(is_rule(((("a", None),), ())), False)


class IsKept(Case):
    def test_is_kept(self):
        for rule, plan, answer in [
            (((), ()), (), True),
            (((), ()), (("a", 1),), True),
            (AB, (), True),
            (AB, (("b", 0),), True),
            (AB, (("a", 0),), False),
            (AB, (("a", 0), ("b", 1)), False),
            (AB, (("a", 0), ("b", 2)), True),
            (AB, (("a", 0), ("b", 3)), True),
            (NONE_A, (("a", 0),), False),
            (NONE_A, (("b", 0),), True),
            (((), (("a", 0),)), (), True),
            (((("a", 1), ("b", 0)), (("b", 0), ("c", 5))), (("a", 5), ("b", 6)), True),
            (((("a", 1), ("b", 0)), (("b", 0), ("c", 5))), (("a", 6), ("b", 6)), False),
            (((("a", 1), ("b", 0)), (("b", 0), ("c", 5))), (("a", 6), ("b", 6), ("c", 2)), True),
            (((("a", 0),), (("a", 0),)), (("a", 3),), True),
            (((("a", 1),), (("a", 0),)), (("a", 3),), False),
            (((("a", FAR),), (("b", -FAR),)), (("a", 0), ("b", 2 * FAR - 1)), False),
            (((("a", FAR),), (("b", -FAR),)), (("a", 0), ("b", 2 * FAR)), True),
        ]:
            self.same(is_kept(rule, plan), answer)
            self.same(is_kept(rule=rule, plan=plan), answer)

    def test_plain_look(self):
        for book in some_books(1, 40, ["a", "b", "c"], [-2, -1, 0, 1, 2]):
            for rule in book.rules:
                for plan in grid("abc", [0, 1, 2]):
                    self.same(is_kept(rule, plan), keeps(plan, rule))

    def test_wrong(self):
        for thing in WRONG:
            self.fails(BadRule("."), is_kept, (thing, ()), None)
            self.fails(BadRule("."), is_kept, ((), thing), ())
            self.fails(BadPlan("."), is_kept, AB, thing)
        for thing in (None, True, (), [(), ()], ((), (), ()), "ab", {}):
            self.fails(BadRule("."), is_kept, thing, ())
            self.fails(BadRule("."), is_kept, thing, None)


class Books(Case):
    def test_things_and_rules(self):
        book = Book(["roof", "frame"], [((), ())])
        self.same(book.things, ("frame", "roof"))
        self.same(book.rules, (((), ()),))
        book = Book(things=("b", "a"), rules=(AB, BA, AB))
        self.same(book.things, ("a", "b"))
        self.same(book.rules, (AB, BA, AB))
        self.same(len(book), 3)
        self.same([book[0], book[1], book[2]], [AB, BA, AB])
        self.same(Book(["a"]).rules, ())
        self.same(len(Book(["a"])), 0)
        self.same(Book(["a", "b", "c", "d"]).things, ("a", "b", "c", "d"))

    def test_wrong_things(self):
        wrong = any_values() + [
            [], ["a", "a"], ["a", "b", "a"], ["a", "b", "c", "d", "e"], ["abcdefg"], [""], ["a", "B"], ["a", None],
            ("a", 1), ["a", ["b"]], {"a": 0}, {"a"}, "a", [("a", 0)], ["a", True],
        ]
        for things in wrong:
            if things not in (("a",), ["a"]):
                self.fails(BadBook("things"), Book, things)
                self.fails(BadBook("things"), Book, things, None)
                self.fails(BadBook("things"), Book, things, [None])

    def test_wrong_rules(self):
        for rules in (None, True, 0, "ab", {}, {0: AB}, Book(["a"])):
            self.fails(BadRules(None), Book, ["a", "b"], rules)
        wrong = WRONG + [
            (), [(), ()], ((), (), ()), (AB,), C, ((("a", 0), ("c", 0)), ()), ((), (("c", 0),)), (list(AB[0]), AB[1]),
        ]
        for rule in wrong:
            self.fails(BadRules(0), Book, ["a", "b"], [rule])
            self.fails(BadRules(2), Book, ["a", "b"], [AB, BA, rule, None])
        self.fails(BadRules(0), Book, ["a", "b"], AB)

    def test_twelve_and_thirteen_rules(self):
        self.same(len(Book(["a", "b"], [AB] * 12)), 12)
        self.fails(TooMany(12), Book, ["a", "b"], [AB] * 13)
        self.fails(BadRules(12), Book, ["a", "b"], [AB] * 12 + [C])
        self.fails(BadRules(0), Book, ["a", "b"], [C] + [AB] * 12)
        self.fails(TooMany(12), Book, ["a", "b"], [AB] * 40)

    def test_index(self):
        book = Book(["a", "b"], [AB, BA])
        for at in NO_INDEX + [2, 3]:
            with self.assertRaises(NoRule) as caught:
                book[at]
            self.assertIs(caught.exception.at, at)
            self.fails(NoRule(at), book.without, at)
        self.fails(NoRule(0), Book(["a"]).without, 0)

    def test_equality(self):
        book = Book(["a", "b"], [AB, BA])
        self.assertTrue(book == Book(("b", "a"), (AB, BA)))
        self.assertFalse(book != Book(("b", "a"), (AB, BA)))
        for other in (Book(["a", "b"], [BA, AB]), Book(["a", "b"], [AB]), Book(["a", "b", "c"], [AB, BA])):
            self.assertTrue(book != other)
            self.assertFalse(book == other)
        self.unequal_to_others(book)

    def test_no_iterating(self):
        self.not_iterated(Book(["a", "b"], [AB, BA]))
        self.not_iterated(Book(["a"]))

    def test_keeps(self):
        book = Book(["a", "b"], [AB, BA])
        self.same(book.keeps(()), True)
        self.same(book.keeps((("a", 0), ("b", 1))), False)
        self.same(book.keeps((("a", 0), ("b", 2))), True)
        self.same(book.keeps(plan=(("a", 0), ("b", 9))), True)
        self.same(book.keeps((("a", 0), ("b", 10))), False)
        self.same(book.keeps((("a", 0),)), False)
        self.same(Book(["a"]).keeps((("a", 3),)), True)
        for plan in WRONG + [(("c", 0),), (("a", 0), ("c", 0)), (("a", 0), ("aa", 0), ("b", 5))]:
            self.fails(BadPlan("."), book.keeps, plan)
            self.fails(BadPlan("."), Book(["a"]).keeps, plan)
        self.fails(BadPlan("."), Book(["b"]).keeps, (("a", 0),))

    def test_keeps_plain_look(self):
        for book in some_books(2, 30, ["a", "b", "c"], [-2, -1, 0, 1, 2], 4):
            for plan in grid("abc", [0, 1, 2]):
                self.same(book.keeps(plan), all(keeps(plan, rule) for rule in book.rules))

    def test_with_rule(self):
        book = Book(["a", "b"], [AB])
        self.assertEqual(book.with_rule(BA), Book(["a", "b"], [AB, BA]))
        self.assertEqual(book.with_rule(rule=AB), Book(["a", "b"], [AB, AB]))
        self.assertEqual(book, Book(["a", "b"], [AB]))
        full = Book(["a", "b"], [AB] * 11).with_rule(BA)
        self.same(full.rules, (AB,) * 11 + (BA,))
        self.fails(TooMany(12), full.with_rule, AB)
        for rule in WRONG + [(), C, ((), (("c", 0),)), [AB[0], AB[1]]]:
            self.fails(BadRule("."), book.with_rule, rule)
            self.fails(BadRule("."), full.with_rule, rule)
        self.same(full.rules, (AB,) * 11 + (BA,))

    def test_without(self):
        book = Book(["a", "b"], [AB, BA, NONE_A])
        self.assertEqual(book.without(0), Book(["a", "b"], [BA, NONE_A]))
        self.assertEqual(book.without(1), Book(["a", "b"], [AB, NONE_A]))
        self.assertEqual(book.without(at=2), Book(["a", "b"], [AB, BA]))
        self.same(book.rules, (AB, BA, NONE_A))
        self.assertEqual(Book(["a", "b"], [AB]).without(0), Book(["a", "b"]))

    def test_some(self):
        book = Book(["a", "b"], [AB, BA, NONE_A])
        self.assertEqual(book.some(()), Book(["a", "b"]))
        self.assertEqual(book.some((0, 2)), Book(["a", "b"], [AB, NONE_A]))
        self.assertEqual(book.some(lot=(1,)), Book(["a", "b"], [BA]))
        self.assertEqual(book.some((0, 1, 2)), book)
        self.same(book.rules, (AB, BA, NONE_A))
        wrong = [
            None, True, 0, "0", [], [0], [0, 1], {}, (0, 0), (1, 0), (0, 2, 1), (3,), (-1,), (0, 3), (True,), (0, True),
            (False, 1), ("0",), (None,), ((0,),), ([0],), (0, None), (0, 1, 2, 3),
        ]
        for lot in wrong + any_values():
            if lot != (0,):
                self.fails(BadLot("."), book.some, lot)
        self.fails(BadLot("."), Book(["a"]).some, (0,))

    def test_later_changes_of_what_was_passed(self):
        things, rules = ["b", "a"], [AB, BA]
        book = Book(things, rules)
        self.same((things, rules), (["b", "a"], [AB, BA]))
        things.append("c")
        rules.append(NONE_A)
        rules[0] = NONE_A
        self.assertEqual(book, Book(["a", "b"], [AB, BA]))
        self.same(book.things, ("a", "b"))

    def test_properties_are_only_read(self):
        book = Book(["a"])
        for name in ("things", "rules"):
            with self.assertRaises(AttributeError):
                setattr(book, name, ())


if __name__ == "__main__":
    unittest.main()
