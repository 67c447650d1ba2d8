"""Words, and which of them are live."""

import itertools
import unittest

from cornerplans.errors import BadWords
from cornerplans.words import Words, all_words, alike_words
from tests.helper import Case, any_values, objects

WORDS = ["narrowest", "widest", "newest", "oldest", "cheapest", "dearest", "highest", "lowest"]
AKIN = [("narrowest", "widest"), ("newest", "oldest"), ("cheapest", "dearest"), ("highest", "lowest")]
LAST = ["newest", "oldest", "cheapest", "dearest"]
# The 65, by hand: at most one of each pair of boxes and ranks, in either order, then at most one last word.
HEADS = [()] + [(word,) for word in ("highest", "lowest", "narrowest", "widest")] + [
    order for box in ("narrowest", "widest") for rank in ("highest", "lowest") for order in ((box, rank), (rank, box))
]


def akin(one, other):
    return one == other or (one, other) in AKIN or (other, one) in AKIN


def live(words):
    """A plain look at the words ahead of each."""
    told = []
    for at, word in enumerate(words):
        if not any(akin(word, other) or other in LAST for other in words[:at]):
            told.append(word)
    return tuple(told)


class Lists(Case):
    def test_words(self):
        self.same(Words().words, ())
        self.same(Words([]).words, ())
        self.same(Words(("oldest", "newest")).words, ("oldest", "newest"))
        self.same(Words(words=WORDS).words, tuple(WORDS))
        for word in WORDS:
            self.same(Words([word]).words, (word,))
            self.same(Words([word]).live, (word,))
        self.same(Words().live, ())

    def test_wrong(self):
        for value in any_values() + objects() + [
            "narrowest", "", ["narrow"], ["Newest"], ["newest "], ["newest", "newest"], ["newest", "oldest", "newest"],
            ["newest", None], ["newest", 1], ["newest", ["oldest"]], [("newest",)], {"newest": 1}, {"newest"},
            ["newest", True], [{}], [[]], ["newest,oldest"], WORDS + ["newest"], WORDS + ["new"],
        ]:
            if value != ():
                self.fails(BadWords("."), Words, value)
                self.fails(BadWords("."), Words, words=value)

    def test_equality(self):
        words = Words(["newest", "widest"])
        self.assertTrue(words == Words(("newest", "widest")))
        self.assertFalse(words != Words(("newest", "widest")))
        for other in (["widest", "newest"], ["newest"], [], ["newest", "narrowest"], ["newest", "widest", "lowest"]):
            self.assertTrue(words != Words(other))
            self.assertFalse(words == Words(other))
        self.unequal_to_others(words)

    def test_later_changes_of_what_was_passed(self):
        given = ["newest"]
        words = Words(given)
        given.append("oldest")
        self.same((words.words, words.live), (("newest",), ("newest",)))

    def test_no_iterating(self):
        self.not_iterated(Words())
        self.not_iterated(Words(["newest"]))

    def test_properties_are_only_read(self):
        for name in ("words", "live"):
            with self.assertRaises(AttributeError):
                setattr(Words(), name, ())


class Live(Case):
    def test_akin_words(self):
        for one, other in AKIN:
            self.same(Words([one, other]).live, (one,))
            self.same(Words([other, one]).live, (other,))

    def test_behind_last_words(self):
        for last, word in itertools.product(LAST, WORDS):
            if last != word:
                self.same(Words([last, word]).live, (last,))
                self.same(Words([last, word]).words, (last, word))

    def test_other_pairs(self):
        for one, other in itertools.permutations(WORDS, 2):
            if not akin(one, other) and one not in LAST:
                self.same(Words([one, other]).live, (one, other))

    def test_longer_lists(self):
        self.same(Words(["narrowest", "highest", "widest", "newest"]).live, ("narrowest", "highest", "newest"))
        self.same(Words(["highest", "oldest", "narrowest", "cheapest"]).live, ("highest", "oldest"))
        self.same(Words(["lowest", "highest", "widest", "narrowest"]).live, ("lowest", "widest"))
        for many in range(5):
            for words in itertools.permutations(WORDS, many):
                self.assertEqual(Words(words).live, live(words))


class Alike(Case):
    def test_alike_words(self):
        for one, other, answer in [
            ([], [], True),
            ([], ["newest"], False),
            (["newest"], ["newest", "oldest", "widest"], True),
            (["newest"], ["oldest"], False),
            (["narrowest", "highest"], ["highest", "narrowest"], False),
            (["narrowest", "highest"], ["narrowest", "widest", "highest", "lowest"], True),
            (["narrowest", "highest"], ["narrowest", "highest", "cheapest"], False),
            (["cheapest", "dearest"], ["cheapest", "newest"], True),
        ]:
            self.same(alike_words(Words(one), Words(other)), answer)
            self.same(alike_words(one=Words(other), other=Words(one)), answer)

    def test_just_if_live_words_are_the_same(self):
        rows = [words for many in range(3) for words in itertools.permutations(WORDS, many)]
        for one, other in itertools.product(rows, rows):
            self.assertIs(alike_words(Words(one), Words(other)), live(one) == live(other))

    def test_wrong(self):
        for value in any_values() + [(), [], ["newest"], ("newest",), "newest"]:
            if not isinstance(value, Words):
                self.fails(BadWords("."), alike_words, value, Words())
                self.fails(BadWords("."), alike_words, Words(), value)
                self.fails(BadWords("."), alike_words, value, None)


class All(Case):
    def test_there_are_65_in_order(self):
        wanted = [head + last for head in HEADS for last in [()] + [(word,) for word in LAST]]
        told = [words.words for words in all_words()]
        self.same(told, sorted(wanted, key=lambda words: (len(words), words)))
        self.same(len(told), 65)

    def test_all_of_their_words_are_live(self):
        rows = [words for many in range(6) for words in itertools.permutations(WORDS, many)]
        wanted = [words for words in rows if live(words) == words]
        told = all_words()
        self.assertEqual(sorted(wanted), sorted(words.words for words in told))
        for words in told:
            self.assertIsInstance(words, Words)
            self.same(words.live, words.words)

    def test_new_lists(self):
        all_words().clear()
        self.same(len(all_words()), 65)
        self.assertIsInstance(all_words(), list)
        self.assertIsNot(all_words(), all_words())


if __name__ == "__main__":
    unittest.main()
