"""Rounds: round rules, and plans that keep them at a pace."""

import random
import unittest

from cornerplans.errors import BadBook, BadNumber, BadPlan, BadRules, NoRounds, NoRule, TooMany
from cornerplans.plans import plans_of
from cornerplans.rounds import RoundBook, at_pace, keeps_rounds
from cornerplans.rules import Book
from tests.helper import Case, any_values, grid, no_numbers, others_than
from tests.test_moments import WRONG
from tests.test_rules import NO_INDEX

FAR = 10 ** 9
NEXT = ((("a", 2, 0),), (("b", 0, 1),))
BACK = ((("b", 0, 0),), (("a", 9, 0), ("b", -4, 3)))
NO_ROUNDS = others_than(RoundBook, NoRounds("."))
NO_PACES = no_numbers(BadNumber("."))
NO_PLAN = [(value, BadPlan(".")) for value in WRONG + [(("c", 0),), (("a", 0), ("c", 0)), (("aa", 0),)]]
NO_SIDES = any_values() + [
    None, [], {}, [("a", 1, 0)], (["a", 1, 0],), (("a", 1),), (("a", 1, 0, 0),), (("a", 1, 4),), (("a", 1, -1),),
    (("a", 1, True),), (("a", 1, None),), (("a", 1, "0"),), (("a", True, 0),), (("a", None, 0),), (("a", "1", 0),),
    (("c", 1, 0),), (("A", 1, 0),), ((None, 1, 0),), ((1, 1, 0),), (("b", 1, 0), ("a", 1, 0)),
    (("a", 1, 0), ("a", 1, 0)), (("a", 1, 0), ("a", 2, 1)), (("a", 1, 0), ("c", 1, 0)), (("a", 1, 0), None),
    ("a", 1, 0), (("a", 1, (0,)),), (("a", [1], 0),), ((["a"], 1, 0),), (("a", 1, FAR),), (("a", 1, False),),
]


def some_round_side(chance, things, waits, laters):
    names = sorted(chance.sample(list(things), chance.randint(0, len(things))))
    return tuple((name, chance.choice(waits), chance.choice(laters)) for name in names)


def some_rounds(seed, many, things, waits, most=4, laters=(0, 0, 1, 2, 3)):
    """Round books by chance, but the same ones for each seed."""
    chance = random.Random(seed)
    books = []
    for _ in range(many):
        rules = [
            (some_round_side(chance, things, waits, laters), some_round_side(chance, things, waits, laters))
            for _ in range(chance.randint(0, most))
        ]
        books.append(RoundBook(list(things), rules))
    return books


def keeps_round_by_round(rule, pace, plan):
    """A plain look: in each round the last of the left is no later than the last of the right, in their rounds."""
    left, right = rule
    for number in range(-3, 4):
        came = [
            [dict(plan)[name] + (number + later) * pace + wait for name, wait, later in side if name in dict(plan)]
            for side in (left, right)
        ]
        if came[0] and not (came[1] and max(came[1]) >= max(came[0])):
            return False
    return True


class RoundBooks(Case):
    def test_things_and_rules(self):
        for rounds in (RoundBook(["b", "a"], [NEXT, BACK]), RoundBook(things=("a", "b"), rules=(NEXT, BACK))):
            self.same(rounds.things, ("a", "b"))
            self.same(rounds.rules, (NEXT, BACK))
            self.same((len(rounds), rounds[0], rounds[1]), (2, NEXT, BACK))
        self.same((RoundBook(["a"]).rules, len(RoundBook(["a"]))), ((), 0))
        self.same(RoundBook(list("dcba")).things, ("a", "b", "c", "d"))
        rule = ((), (("a", -FAR, 0), ("b", FAR, 3)))
        self.same(RoundBook(["a", "b"], [rule, ((), ())]).rules, (rule, ((), ())))
        for name in ("things", "rules"):
            with self.assertRaises(AttributeError):
                setattr(rounds, name, ())

    def test_laters(self):
        for later in range(4):
            rule = ((("a", 0, later),), ())
            self.same(RoundBook(["a"], [rule]).rules, (rule,))
        for later in (-1, 4, True, False, None, "1", FAR):
            self.fails(BadRules(0), RoundBook, ["a"], [((("a", 0, later),), ())])

    def test_wrong_things(self):
        wrong = any_values() + [
            [], ["a", "a"], list("abcde"), ["abcdefg"], [""], ["a", "B"], ["a", None], "a", {"a": 0}, ["a", True],
        ]
        for things in wrong:
            if things not in (("a",), ["a"]):
                self.fails(BadBook("things"), RoundBook, things)
                self.fails(BadBook("things"), RoundBook, things, None)

    def test_wrong_rules(self):
        for rules in (None, True, 0, "ab", {}, {0: NEXT}, Book(["a"]), RoundBook(["a"])):
            self.fails(BadRules(None), RoundBook, ["a", "b"], rules)
        for side in NO_SIDES:
            if side not in ((), (("a", 1, 2),)):
                self.fails(BadRules(0), RoundBook, ["a", "b"], [(side, ())])
                self.fails(BadRules(1), RoundBook, ["a", "b"], [NEXT, ((), side), None])
        for rule in any_values() + [
            None, (), [(), ()], ((), (), ()), ((),), [NEXT[0], NEXT[1]], {}, ((("a", 0),), ()), (NEXT,), "ab",
        ]:
            if rule != ((), ()):
                self.fails(BadRules(0), RoundBook, ["a", "b"], [rule])
                self.fails(BadRules(2), RoundBook, ("a", "b"), (NEXT, BACK, rule, NEXT))

    def test_24_and_25_rules(self):
        self.same(len(RoundBook(["a", "b"], [NEXT] * 24)), 24)
        self.fails(TooMany(24), RoundBook, ["a", "b"], [NEXT] * 25)
        self.fails(TooMany(24), RoundBook, ["a", "b"], [NEXT] * 60)
        self.fails(BadRules(24), RoundBook, ["a", "b"], [NEXT] * 24 + [None])

    def test_index(self):
        rounds = RoundBook(["a", "b"], [NEXT, BACK])
        for at in NO_INDEX + [2, 24]:
            with self.assertRaises(NoRule) as caught:
                rounds[at]
            self.assertIs(caught.exception.at, at)

    def test_equality(self):
        rounds = RoundBook(["a", "b"], [NEXT, BACK])
        self.assertTrue(rounds == RoundBook(("b", "a"), (NEXT, BACK)))
        self.assertFalse(rounds != RoundBook(("b", "a"), (NEXT, BACK)))
        for other in (
            RoundBook(["a", "b"], [BACK, NEXT]), RoundBook(["a", "b"], [NEXT]),
            RoundBook(["a", "b", "c"], [NEXT, BACK]), Book(["a", "b"]),
        ):
            self.assertTrue(rounds != other)
            self.assertFalse(rounds == other)
        self.assertFalse(RoundBook(["a"]) == Book(["a"]))
        self.unequal_to_others(rounds)

    def test_no_iterating(self):
        self.not_iterated(RoundBook(["a", "b"], [NEXT, BACK]))
        self.not_iterated(RoundBook(["a"]))

    def test_later_changes_of_what_was_passed(self):
        things, rules = ["b", "a"], [NEXT, BACK]
        rounds = RoundBook(things, rules)
        things.clear()
        rules[0] = BACK
        self.assertEqual(rounds, RoundBook(["a", "b"], [NEXT, BACK]))


class AtPace(Case):
    def test_by_hand(self):
        rounds = RoundBook(["a", "b"], [NEXT, BACK])
        for pace, wait, more in [(7, 7, 17), (0, 0, -4), (-7, -7, -25), (FAR, FAR, 3 * FAR - 4)]:
            book = Book(["a", "b"], [((("a", 2),), (("b", wait),)), ((("b", 0),), (("a", 9), ("b", more)))])
            self.assertEqual(at_pace(rounds, pace), book)
            self.assertEqual(at_pace(rounds=rounds, pace=pace), book)
        self.assertEqual(at_pace(RoundBook(["a"]), 5), Book(["a"]))

    def test_twelve_and_thirteen_rules(self):
        self.same(len(at_pace(RoundBook(["a", "b"], [NEXT] * 12), 1)), 12)
        for many in (13, 24):
            rounds = RoundBook(["a", "b"], [NEXT] * many)
            self.fails(TooMany(12), at_pace, rounds, 1)
            self.fails(BadNumber("."), at_pace, rounds, True)

    def test_wrong(self):
        self.judged(at_pace, [RoundBook(["a", "b"], [NEXT]), 3], [NO_ROUNDS, NO_PACES])


class KeepsRounds(Case):
    def test_by_hand(self):
        # In the next round b is no sooner than 2 behind a.
        rounds = RoundBook(["a", "b"], [NEXT])
        for pace, plan, answer in [
            (0, (("a", 0), ("b", 2)), True), (0, (("a", 0), ("b", 1)), False), (7, (("a", 0), ("b", -5)), True),
            (7, (("a", 0), ("b", -6)), False), (-7, (("a", 0), ("b", 9)), True), (-7, (("a", 0), ("b", 8)), False),
            (7, (), True), (7, (("a", 0),), False), (7, (("b", 0),), True), (FAR, (("a", FAR), ("b", 2)), True),
            (FAR, (("a", FAR), ("b", 1)), False),
        ]:
            self.same(keeps_rounds(rounds, pace, plan), answer)
            self.same(keeps_rounds(rounds=rounds, pace=pace, plan=plan), answer)
        self.same(keeps_rounds(RoundBook(["a"]), 0, (("a", 0),)), True)

    def test_many_rules(self):
        for many in (13, 24):
            rounds = RoundBook(["a", "b"], [NEXT] * (many - 1) + [((("b", 0, 0),), (("a", 2, 0),))])
            self.same(keeps_rounds(rounds, 5, (("a", 0), ("b", 2))), True)
            self.same(keeps_rounds(rounds, 5, (("a", 0), ("b", -3))), True)
            self.same(keeps_rounds(rounds, 5, (("a", 0), ("b", 3))), False)
            self.same(keeps_rounds(rounds, 5, (("a", 0), ("b", -4))), False)

    def test_round_by_round(self):
        for rounds in some_rounds(1, 30, "abc", range(-3, 4)):
            for pace in range(-3, 4):
                for plan in grid("abc", [0, 2]):
                    answer = all(keeps_round_by_round(rule, pace, plan) for rule in rounds.rules)
                    self.same(keeps_rounds(rounds, pace, plan), answer)
                    self.same(at_pace(rounds, pace).keeps(plan), answer)
                    self.same(plan in plans_of(at_pace(rounds, pace)), answer)

    def test_wrong(self):
        self.judged(keeps_rounds, [RoundBook(["a", "b"], [NEXT]), 3, ()], [NO_ROUNDS, NO_PACES, NO_PLAN])
        self.fails(BadPlan("."), keeps_rounds, RoundBook(["a", "b"], [NEXT] * 24), 3, (("c", 0),))


if __name__ == "__main__":
    unittest.main()
