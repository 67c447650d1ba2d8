"""Paces: barring choices, and at which paces plans keep round rules."""

import itertools
import random
import unittest

from cornerplans.errors import BadLot, BadThing
from cornerplans.paces import barring, is_barring, paces
from cornerplans.plans import makers_keeping, makers_of, plans_of
from cornerplans.rounds import RoundBook, at_pace, keeps_rounds
from tests.helper import Case, any_values, is_inside
from tests.test_rounds import NO_PACES, NO_ROUNDS, some_rounds

FAR = 10 ** 9
# In the next round b is 2 or more behind a; a is at most 9 behind b.
NEXT = ((("a", 2, 0),), (("b", 0, 1),))
BACK = ((("b", 0, 0),), (("a", 9, 0),))
ROUNDS = RoundBook(["a", "b"], [NEXT, BACK])
RULES = {
    "alone": ((("a", 0, 0),), ()),
    "itself": ((("a", 0, 0),), (("a", -5, 1),)),
    "one of two": ((("a", 0, 0),), (("b", -1, 0), ("c", -1, 0))),
}


def all_lots(things):
    return [lot for size in range(len(things) + 1) for lot in itertools.combinations(sorted(things), size)]


def rings_of(rounds, pace, choice):
    """A plain look: the sums of all rings, told as orders of different keys."""
    sums = []
    for size in range(1, len(choice) + 1):
        for ring in itertools.permutations(sorted(choice), size):
            total = 0
            for name, follower in zip(ring, ring[1:] + ring[:1]):
                left, right = rounds[choice[name]]
                starts = [wait + pace * later for thing, wait, later in left if thing == name]
                leads = [wait + pace * later for thing, wait, later in right if thing == follower]
                total = total + leads[0] - starts[0] if leads and total is not None else None
            if total is not None:
                sums.append(total)
    return sums


def bars(rounds, pace, name, choice):
    """A plain look at a dict from things to indexes of rules."""
    if name not in choice:
        return False
    for key, at in choice.items():
        left, right = rounds[at]
        if key not in [thing for thing, _, _ in left] or any(thing not in choice for thing, _, _ in right):
            return False
    return all(total < 0 for total in rings_of(rounds, pace, choice))


def all_choices(rounds):
    things = rounds.things
    for row in itertools.product([None, *range(len(rounds))], repeat=len(things)):
        yield {name: at for name, at in zip(things, row) if at is not None}


def come_together(rounds, pace):
    """The lots of things just which some plan has at a pace, told by the makers of at_pace."""
    makers = plans_of(at_pace(rounds, pace)).makers
    lots = {()}
    for maker in makers:
        things = tuple(name for name, _ in maker)
        lots |= {tuple(sorted(set(lot) | set(things))) for lot in lots}
    return lots


class Choices(Case):
    def judge(self, rounds, pace, name, thing, answer):
        self.same(is_barring(rounds, pace, name, thing), answer)
        self.same(is_barring(rounds=rounds, pace=pace, name=name, thing=thing), answer)

    def test_by_hand(self):
        # The ring counts 9 - 2 and the pace.
        for pace, answer in [(-7, False), (-8, True), (0, False), (-FAR, True)]:
            for name in "ab":
                self.judge(ROUNDS, pace, name, {"a": 0, "b": 1}, answer)
                self.judge(ROUNDS, pace, name, {"b": 1, "a": 0}, answer)
                wanted = {"a": 0, "b": 1} if answer else None
                self.same(barring(ROUNDS, pace, name), wanted)
                self.same(barring(rounds=ROUNDS, pace=pace, name=name), wanted)
        for thing in [
            {}, {"a": 0}, {"b": 1}, {"a": 1, "b": 0}, {"a": 0, "b": 0}, {"a": 1, "b": 1}, {"a": 0, "b": 2},
            {"a": 0, "b": -1}, {"a": 0, "b": True}, {"a": False, "b": 1}, {"a": 0, "b": None}, {"a": 0, "b": "1"},
            {"a": 0, "b": 1, "c": 0}, {"a": 0, "b": 1, None: 0}, {"a": 0, "b": 1, 1: 1}, {"a": 0, "b": 1, ("a",): 0},
            [("a", 0), ("b", 1)], (("a", 0), ("b", 1)), ["a", "b"], "ab", None, True, {"a": [0], "b": 1},
            {"a": (0,), "b": 1}, {"a": {}, "b": 1},
        ] + any_values():
            self.judge(ROUNDS, -8, "a", thing, False)
            self.judge(ROUNDS, -8, "b", thing, False)

    def test_rules_without_pairs_at_their_right(self):
        rounds = RoundBook(["a", "b"], [RULES["alone"], BACK])
        for pace in (-FAR, 0, FAR):
            self.judge(rounds, pace, "a", {"a": 0}, True)
            self.judge(rounds, pace, "b", {"a": 0}, False)
            self.judge(rounds, pace, "b", {"b": 1}, False)
            self.judge(rounds, pace, "b", {"a": 0, "b": 1}, True)
            self.judge(rounds, pace, "a", {"a": 0, "b": 1}, True)
            self.same(barring(rounds, pace, "a"), {"a": 0})
            self.same(barring(rounds, pace, "b"), {"a": 0, "b": 1})

    def test_steps_to_the_thing_itself(self):
        rounds = RoundBook(["a"], [RULES["itself"]])
        for pace, answer in [(4, True), (5, False), (6, False), (-9, True)]:
            self.judge(rounds, pace, "a", {"a": 0}, answer)
            self.same(barring(rounds, pace, "a"), {"a": 0} if answer else None)

    def test_one_of_two(self):
        rules = [RULES["one of two"], ((("b", 0, 0), ("c", 3, 0)), (("a", 0, 0),)), ((("c", 0, 0),), (("a", 1, 0),))]
        rounds = RoundBook(["a", "b", "c"], rules)
        for thing, answer in [
            ({"a": 0, "b": 1, "c": 1}, True), ({"a": 0, "b": 1}, False), ({"a": 0, "b": 1, "c": 2}, False),
            ({"b": 1, "c": 1}, False), ({"a": 0, "c": 1}, False),
        ]:
            for name in "abc":
                self.judge(rounds, 0, name, thing, answer)
        self.same(barring(rounds, 0, "c"), {"a": 0, "b": 1, "c": 1})
        self.same(list(barring(rounds, 0, "c")), ["a", "b", "c"])
        self.same(barring(RoundBook(["a", "b", "c"], rules[:1] + rules[2:]), 0, "a"), None)

    def test_sums_of_0_and_below(self):
        for wait, answer in [(0, False), (-1, True), (1, False)]:
            ring = [((("a", 0, 0),), (("b", wait, 0),)), ((("b", 0, 0),), (("c", 0, 0),))]
            ring += [((("c", 0, 0),), (("a", 0, 0),))]
            rounds = RoundBook(["a", "b", "c"], ring)
            for pace in (-5, 0, 5):
                self.judge(rounds, pace, "b", {"a": 0, "b": 1, "c": 2}, answer)
                self.same(barring(rounds, pace, "b") is not None, answer)

    def test_a_ring_in_a_ring(self):
        # The ring of a and b alone sums to 0; the greater one, and that of b and c, sum to less.
        rules = [((("a", 0, 0),), (("b", 0, 0),)), ((("b", 0, 0),), (("a", 0, 0), ("c", -9, 0))), (
            (("c", 0, 0),), (("a", 0, 0), ("b", 0, 0)))]
        self.judge(RoundBook(["a", "b", "c"], rules), 0, "a", {"a": 0, "b": 1, "c": 2}, False)
        rules[0] = ((("a", 1, 0),), (("b", 0, 0),))
        self.judge(RoundBook(["a", "b", "c"], rules), 0, "a", {"a": 0, "b": 1, "c": 2}, True)

    def test_plain_look(self):
        seen = set()
        for things, many in [("a", 10), ("ab", 20), ("abc", 30)]:
            for rounds in some_rounds(7, many, things, range(-2, 3), 3):
                for pace, name in itertools.product((-2, 0, 1), things):
                    choices = list(all_choices(rounds))
                    for choice in choices:
                        self.same(is_barring(rounds, pace, name, choice), bars(rounds, pace, name, choice))
                    found = barring(rounds, pace, name)
                    self.same(found is not None, any(bars(rounds, pace, name, choice) for choice in choices))
                    self.same(found is None, any(name in lot for lot in come_together(rounds, pace)))
                    seen.add(None if found is None else len(found))
                    if found is not None:
                        self.assertTrue(bars(rounds, pace, name, found))
                        self.same(list(found), sorted(found))
        self.assertTrue({None, 1, 2, 3} <= seen)

    def test_four_things_and_24_rules(self):
        for rounds in some_rounds(3, 6, "abcd", range(-9, 10), 12) + some_rounds(4, 2, "abcd", range(-9, 10), 24):
            for pace in (-7, 0, 3):
                makers = [((name, 0),) for name in "abcd"]
                for left, right in rounds.rules:
                    at = [tuple((name, wait + later * pace) for name, wait, later in side) for side in (left, right)]
                    makers = makers_of(makers_keeping(makers, tuple(at)))
                coming = {name for maker in makers for name, _ in maker}
                for name in "abcd":
                    found = barring(rounds, pace, name)
                    self.same(found is None, name in coming)
                    if found is not None:
                        self.assertTrue(is_barring(rounds, pace, name, found) and bars(rounds, pace, name, found))
        # Of 23 rules for a one alone bars it, as its ring counts 10 - 9 - 2.
        rules = [((("a", at % 9, 0),), (("b", 10, 0),)) for at in range(23)]
        back = ((("b", 0, 0),), (("a", -2, 0),))
        self.same(barring(RoundBook(["a", "b"], [*rules, back]), 0, "a"), None)
        rules[17] = ((("a", 9, 0),), (("b", 10, 0),))
        self.same(barring(RoundBook(["a", "b"], [*rules, back]), 0, "a"), {"a": 17, "b": 23})
        many = RoundBook(["a"], [((("a", 0, 0),), (("a", 0, 0),))] * 23 + [RULES["alone"]])
        self.judge(many, 0, "a", {"a": 23}, True)
        self.same(barring(many, 0, "a"), {"a": 23})

    def test_new_dicts(self):
        barring(ROUNDS, -8, "a").clear()
        self.same(barring(ROUNDS, -8, "a"), {"a": 0, "b": 1})
        choice = {"b": 1, "a": 0}
        is_barring(ROUNDS, -8, "a", choice)
        self.same(list(choice.items()), [("b", 1), ("a", 0)])

    def test_wrong(self):
        no_things = [(value, BadThing(value)) for value in any_values() + ["c", "ab", ("a",), ["a"]] if value != "a"]
        self.judged(barring, [ROUNDS, 0, "a"], [NO_ROUNDS, NO_PACES, no_things])
        self.judged(is_barring, [ROUNDS, 0, "a", None], [NO_ROUNDS, NO_PACES, no_things, []])


class Paces(Case):
    def test_by_hand(self):
        for lot, told in [
            ((), [(None, None)]), (("a",), []), (("b",), []), (("a", "b"), [(-7, None)]),
        ]:
            self.same(paces(ROUNDS, lot), told)
            self.same(paces(rounds=ROUNDS, lot=lot), told)
        rounds = RoundBook(["a", "b", "c"], [NEXT])
        for lot, told in [
            (("a",), []), (("b",), [(None, None)]), (("c",), [(None, None)]), (("b", "c"), [(None, None)]),
            (("a", "c"), []), (("a", "b", "c"), [(None, None)]),
        ]:
            self.same(paces(rounds, lot), told)
        self.same(paces(RoundBook(["a"], [RULES["itself"]]), ("a",)), [(5, None)])
        self.same(paces(RoundBook(["a"], [RULES["alone"]]), ("a",)), [])
        self.same(paces(RoundBook(["a"]), ("a",)), [(None, None)])
        self.same(paces(RoundBook(["a"], [((("a", 0, 2),), (("a", 5, 0),))]), ("a",)), [(None, 2)])
        self.same(paces(RoundBook(["a"], [((("a", 0, 2),), (("a", 6, 0),))]), ("a",)), [(None, 3)])
        self.same(paces(RoundBook(["a"], [((("a", 0, 2),), (("a", -5, 0),))]), ("a",)), [(None, -3)])
        self.same(paces(RoundBook(["a"], [((("a", 0, 0),), (("a", 5, 2),))]), ("a",)), [(-2, None)])
        self.same(paces(RoundBook(["a"], [((("a", 0, 0),), (("a", -5, 2),))]), ("a",)), [(3, None)])
        self.same(paces(RoundBook(["a"], [((("a", 0, 1),), (("a", 0, 1),))]), ("a",)), [(None, None)])
        self.same(paces(RoundBook(["a"], [((("a", 1, 1),), (("a", 0, 1),))]), ("a",)), [])

    def test_both_ends_and_two_stretches(self):
        # a waits for itself at great paces, or for b at small ones.
        either = ((("a", 0, 0),), (("a", -8, 1), ("b", 0, 0)))
        back = ((("b", 0, 1),), (("a", 3, 0),))
        rounds = RoundBook(["a", "b"], [either, back])
        self.same(paces(rounds, ("a", "b")), [(None, 3), (8, None)])
        self.same(paces(rounds, ("a",)), [(8, None)])
        self.same(paces(rounds, ("b",)), [])
        free = RoundBook(["a", "b"], [either, ((("b", 0, 1),), (("a", 3, 0), ("b", -8, 2)))])
        self.same(paces(free, ("a", "b")), [(None, 3), (8, None)])
        self.same(paces(free, ("b",)), [(8, None)])
        inner = RoundBook(["a"], [((("a", 0, 1),), (("a", 3, 0),)), ((("a", 0, 0),), (("a", 3, 1),))])
        self.same(paces(inner, ("a",)), [(-3, 3)])
        point = RoundBook(["a"], [((("a", 0, 1),), (("a", 3, 0),)), ((("a", 0, 0),), (("a", -3, 1),))])
        self.same(paces(point, ("a",)), [(3, 3)])
        gap = RoundBook(["a"], [((("a", 0, 1),), (("a", 3, 0),)), ((("a", 0, 0),), (("a", -7, 2),))])
        self.same(paces(gap, ("a",)), [])

    def test_far_ends(self):
        for wait, end in [(FAR, FAR), (-FAR, -FAR), (2 * FAR, 2 * FAR)]:
            rounds = RoundBook(["a", "b"], [((("a", 0, 1),), (("b", wait, 0),)), ((("b", 0, 0),), (("a", 0, 0),))])
            self.same(paces(rounds, ("a", "b")), [(None, end)])

    def judge(self, rounds):
        rows = {lot: paces(rounds, lot) for lot in all_lots(rounds.things)}
        looked = {*range(-12, 13), -FAR, FAR}
        for lot, told in rows.items():
            ends = {end for part in told for end in part if end is not None}
            looked |= {end + more for end in ends for more in (-1, 0, 1)}
            for (_, last), (first, _) in zip(told, told[1:]):
                # With one stretch less at least one pace between them would be wrong.
                self.assertGreater(first, last + 1)
            for first, last in told:
                self.assertTrue(first is None or last is None or first <= last)
        for pace in looked:
            lots = come_together(rounds, pace)
            for lot, told in rows.items():
                self.same(any(is_inside(pace, part) for part in told), lot in lots)
        return {len(told) for told in rows.values()}

    def test_plain_look(self):
        seen = set()
        for things, many in [("a", 15), ("ab", 30), ("abc", 40), ("abcd", 5)]:
            for rounds in some_rounds(3, many, things, range(-6, 7), 5):
                seen |= self.judge(rounds)
        self.assertTrue({0, 1, 2} <= seen)

    def test_at_most_one_stretch(self):
        for rounds in some_rounds(6, 60, "abc", range(-6, 7), 5):
            if all(len(right) <= 1 for _, right in rounds.rules):
                self.assertLessEqual(len(paces(rounds, ("a", "b", "c"))), 1)

    def test_more_than_twelve_rules(self):
        rounds = RoundBook(["a", "b"], [NEXT] * 12 + [BACK] * 12)
        self.same(paces(rounds, ("a", "b")), [(-7, None)])
        chance = random.Random(7)
        for _ in range(3):
            rules = [((("a", chance.randint(-9, 9), 0), ("b", 0, 0)), (("a", chance.randint(-9, 9), 1), ("b", 5, 2)))
                     for _ in range(20)]
            rounds = RoundBook(["a", "b"], rules)
            told = paces(rounds, ("a", "b"))
            for pace in range(-20, 21):
                comes = any(keeps_rounds(rounds, pace, (("a", 0), ("b", at))) for at in range(-120, 120))
                self.same(any(is_inside(pace, part) for part in told), comes)

    def test_new_lists(self):
        paces(ROUNDS, ()).clear()
        self.same(paces(ROUNDS, ()), [(None, None)])

    def test_wrong(self):
        lots = [(value, BadLot(".")) for value in any_values() + [
            ("b", "a"), ("a", "a"), ["a"], ["a", "b"], [], {}, "a", "ab", ("c",), ("a", "c"), ("a", None), ("a", True),
            ("a", ["b"]), (0,), ("a", "b", "b"), {"a": 0},
        ] if value not in ((), ("a",))]
        self.judged(paces, [ROUNDS, ("a", "b")], [NO_ROUNDS, lots])


if __name__ == "__main__":
    unittest.main()
