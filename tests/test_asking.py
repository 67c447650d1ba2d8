"""What words tell: rows that are left, what they tell, steps, likeness, rows without effect."""

import itertools
import random
import unittest

from cornerplans.asking import dead_rows, left_at, never_left, parting_day, rows_at, steps, tell_alike, told
from cornerplans.days import Box
from cornerplans.errors import BadNumber, BadPrices, BadThing, BadWords
from cornerplans.prices import Prices, Row
from cornerplans.words import Words, all_words
from tests.helper import Case, any_values, is_inside, no_numbers, others_than
from tests.test_words import AKIN, LAST, WORDS, live

FAR = 10 ** 9
STRETCHES = [(None, None), (None, 6), (2, None), (2, 6), (3, 5), (4, 9), (4, 4), (7, 9)]
NO_WORDS = others_than(Words, BadWords("."))
NO_PRICES = others_than(Prices, BadPrices(None))
NO_WORKS = [(value, BadThing(value)) for value in any_values() + ["", "a1", "A", "abcdefg", "a b", ["a"], ()]
            if value not in ("a", "ab", "abcdef", "newest")]
NO_DAYS = no_numbers(BadNumber("."))
ROWS = Prices([
    Row(Box(), 5, 1),
    Row(Box("a", (0, 9)), 3, 2),
    Row(Box("a", (2, 5)), 7, 0),
    Row(Box(None, (0, 9)), 4, 2),
    Row(Box("a", (2, 5)), 6, 2),
    Row(Box("b", (3, None)), 0, 9),
])


def end(last):
    return (1, 0) if last is None else (0, last)


def start(first):
    return (0, 0) if first is None else (1, first)


def is_in(one, other):
    """A plain look: whether all pairs of one box are in another one."""
    if other.work not in (None, one.work):
        return False
    return start(other.days[0]) <= start(one.days[0]) and end(one.days[1]) <= end(other.days[1])


def beats(word, rows, one, other):
    """A plain look: whether a word puts one row ahead of another one."""
    row, beside = rows[one], rows[other]
    narrower = is_in(row.box, beside.box) and not is_in(beside.box, row.box)
    wider = is_in(beside.box, row.box) and not is_in(row.box, beside.box)
    return {
        "narrowest": narrower, "widest": wider, "newest": one > other, "oldest": one < other,
        "cheapest": row.price < beside.price, "dearest": row.price > beside.price,
        "highest": row.rank > beside.rank, "lowest": row.rank < beside.rank,
    }[word]


def applying(rows, work, day):
    return [at for at, row in enumerate(rows) if row.box.work in (None, work) and is_inside(day, row.box.days)]


def plain_left(words, rows, work, day):
    """A plain look at the rounds."""
    left = applying(rows, work, day)
    for word in words:
        left = [at for at in left if not any(beats(word, rows, other, at) for other in left)]
    return left


def plain_told(words, rows, work, day):
    worths = {rows[at].price for at in plain_left(words, rows, work, day)}
    return "none" if not worths else worths.pop() if len(worths) == 1 else "open"


def some_rows(chance, many, works=("a", "b", None), stretches=STRETCHES):
    """Rows by chance, some of them alike."""
    return [
        Row(Box(chance.choice(works), chance.choice(stretches)), chance.choice([0, 1, 2]), chance.choice([0, 1, 2]))
        for _ in range(many)
    ]


def some_lists(seed, many):
    """Pairs of an order of words and a price list by chance."""
    chance = random.Random(seed)
    for _ in range(many):
        words = chance.sample(WORDS, chance.randint(0, 4))
        yield Words(words), Prices(some_rows(chance, chance.randint(0, 6)))


class Left(Case):
    def test_rows_at(self):
        for work, day, lot in [
            ("a", 3, (0, 1, 2, 3, 4)), ("b", 3, (0, 3, 5)), ("b", 2, (0, 3)), ("c", 0, (0, 3)), ("c", 10, (0,)),
            ("a", 9, (0, 1, 3)), ("a", 10, (0,)), ("a", 0, (0, 1, 3)), ("a", -1, (0,)), ("a", 2, (0, 1, 2, 3, 4)),
            ("a", 1, (0, 1, 3)), ("a", 5, (0, 1, 2, 3, 4)), ("a", 6, (0, 1, 3)), ("b", FAR, (0, 5)), ("b", -FAR, (0,)),
        ]:
            self.same(rows_at(ROWS, work, day), lot)
            self.same(rows_at(prices=ROWS, work=work, day=day), lot)
        self.same(rows_at(Prices(), "a", 0), ())
        self.same(rows_at(Prices([Row(Box("a"), 1)]), "b", 0), ())

    def test_each_word_alone(self):
        for word, lot in [
            ("narrowest", (2, 4)), ("widest", (0,)), ("newest", (4,)), ("oldest", (0,)), ("cheapest", (1,)),
            ("dearest", (2,)), ("highest", (1, 3, 4)), ("lowest", (2,)),
        ]:
            self.same(left_at(Words([word]), ROWS, "a", 3), lot)
            self.same(left_at(words=Words([word]), prices=ROWS, work="a", day=3), lot)
        for word, lot in [("narrowest", (3, 5)), ("widest", (0, 3)), ("newest", (5,)), ("highest", (5,))]:
            prices = Prices([Row(Box("b", (0, None)), 5, 1), *ROWS.rows[1:]])
            self.same(left_at(Words([word]), prices, "b", 3), lot)

    def test_one_word_behind_another(self):
        for words, lot in [
            ([], (0, 1, 2, 3, 4)),
            (["narrowest", "cheapest"], (4,)),
            (["narrowest", "dearest"], (2,)),
            (["narrowest", "highest"], (4,)),
            (["narrowest", "oldest"], (2,)),
            (["highest", "narrowest"], (4,)),
            (["highest", "widest"], (3,)),
            (["highest", "widest", "newest"], (3,)),
            (["highest", "cheapest"], (1,)),
            (["highest", "oldest"], (1,)),
            (["cheapest", "dearest", "newest"], (1,)),
        ]:
            self.same(left_at(Words(words), ROWS, "a", 3), lot)

    def test_akin_words_change_nothing(self):
        for one, other in AKIN:
            for day in range(-1, 11):
                for pair in ((one, other), (other, one)):
                    self.same(left_at(Words(pair), ROWS, "a", day), left_at(Words(pair[:1]), ROWS, "a", day))

    def test_equal_rows(self):
        prices = Prices([Row(Box("a", (1, 3)), 4, 2)] * 3)
        for words in all_words():
            lot = {"newest": (2,), "oldest": (0,)}.get((words.words or ("",))[-1], (0, 1, 2))
            self.same(left_at(words, prices, "a", 2), lot)
            self.same(told(words, prices, "a", 2), 4)
            self.same(told(words, prices, "a", 4), "none")

    def test_boxes_that_nest_and_that_do_not(self):
        nest, cross = Prices([Row(Box("a", (1, 9)), 1), Row(Box(None, (1, 9)), 2)]), Prices([
            Row(Box("a"), 1), Row(Box(None, (1, 9)), 2), Row(Box("a", (None, 8)), 3), Row(Box("a", (2, None)), 4),
        ])
        self.same(left_at(Words(["narrowest"]), nest, "a", 1), (0,))
        self.same(left_at(Words(["widest"]), nest, "a", 9), (1,))
        self.same(left_at(Words(["narrowest"]), cross, "a", 5), (1, 2, 3))
        self.same(left_at(Words(["widest"]), cross, "a", 5), (0, 1))
        self.same(told(Words(["narrowest"]), cross, "a", 5), "open")

    def test_a_row_that_went_puts_no_other_one_back(self):
        # By the first word the narrow box goes, so that at the second one the wide boxes stay.
        prices = Prices([Row(Box("a", (1, 9)), 1, 5), Row(Box("a", (2, 3)), 2, 0), Row(Box("a"), 3, 5)])
        self.same(left_at(Words(["highest", "narrowest"]), prices, "a", 2), (0,))
        self.same(left_at(Words(["narrowest", "highest"]), prices, "a", 2), (1,))

    def test_plain_look(self):
        for words, prices in some_lists(1, 150):
            for work, day in itertools.product("abc", range(1, 11)):
                self.same(rows_at(prices, work, day), tuple(applying(prices.rows, work, day)))
                self.same(left_at(words, prices, work, day), tuple(plain_left(words.words, prices.rows, work, day)))
                self.same(told(words, prices, work, day), plain_told(words.words, prices.rows, work, day))

    def test_wrong(self):
        self.judged(rows_at, [ROWS, "a", 0], [NO_PRICES, NO_WORKS, NO_DAYS])
        for call in (left_at, told):
            self.judged(call, [Words(), ROWS, "a", 0], [NO_WORDS, NO_PRICES, NO_WORKS, NO_DAYS])


class Told(Case):
    def test_told(self):
        for words, work, day, answer in [
            ([], "a", 3, "open"), ([], "c", 99, 5), ([], "b", 99, "open"), (["highest"], "b", 99, 0),
            (["newest"], "a", 3, 6), (["oldest"], "a", 3, 5), (["narrowest"], "a", 3, "open"),
            (["narrowest"], "a", 0, 3), (["narrowest"], "b", 3, "open"), (["narrowest"], "b", 10, 0),
        ]:
            self.same(told(Words(words), ROWS, work, day), answer)
            self.same(told(words=Words(words), prices=ROWS, work=work, day=day), answer)
        self.same(told(Words(), Prices(), "a", 0), "none")
        self.same(told(Words(), Prices([Row(Box("a"), 0)]), "a", 0), 0)
        self.same(told(Words(), Prices([Row(Box("a"), 2, 1), Row(Box(), 2, 5)]), "a", 0), 2)

    def test_far_days(self):
        prices = Prices([Row(Box("a", (-10 ** 30, 10 ** 30)), 1)])
        for day, answer in [(10 ** 30, 1), (10 ** 30 + 1, "none"), (-10 ** 30, 1), (-10 ** 30 - 1, "none")]:
            self.same(told(Words(), prices, "a", day), answer)

    def test_open_is_told_only_without_last_words(self):
        for words, prices in some_lists(2, 300):
            if any(word in LAST for word in words.live):
                for work, day in itertools.product("abc", range(1, 11)):
                    self.assertNotEqual(told(words, prices, work, day), "open")


class Steps(Case):
    def test_by_hand(self):
        self.same(steps(Words(["newest"]), ROWS, "a"), [
            ((None, -1), 5), ((0, 1), 4), ((2, 5), 6), ((6, 9), 4), ((10, None), 5),
        ])
        self.same(steps(words=Words(), prices=ROWS, work="a"), [((None, -1), 5), ((0, 9), "open"), ((10, None), 5)])
        self.same(steps(Words(), Prices(), "a"), [((None, None), "none")])
        self.same(steps(Words(["newest"]), ROWS, "c"), [((None, -1), 5), ((0, 9), 4), ((10, None), 5)])
        self.same(steps(Words(), Prices([Row(Box("a", (3, 4)), 0)]), "a"), [
            ((None, 2), "none"), ((3, 4), 0), ((5, None), "none"),
        ])
        self.same(steps(Words(), Prices([Row(Box("a", (3, 4)), 0)]), "b"), [((None, None), "none")])
        rows = [Row(Box("a", (None, 4)), 7), Row(Box("a", (5, 8)), 7, 3), Row(Box(None, (9, None)), 7)]
        self.same(steps(Words(), Prices(rows), "a"), [((None, None), 7)])
        self.same(steps(Words(), Prices([Row(Box(None, (10 ** 30, None)), 1)]), "z"), [
            ((None, 10 ** 30 - 1), "none"), ((10 ** 30, None), 1),
        ])

    def test_as_told_on_each_day(self):
        for words, prices in some_lists(3, 200):
            for work in "abc":
                rows = steps(words, prices, work)
                self.assertIsInstance(rows, list)
                self.assertIsNone(rows[0][0][0])
                self.assertIsNone(rows[-1][0][1])
                for (one, before), (other, behind) in zip(rows, rows[1:]):
                    self.assertEqual(one[1] + 1, other[0])
                    self.assertNotEqual((before, type(before)), (behind, type(behind)))
                for day in [-FAR, *range(0, 12), FAR]:
                    (answer,) = [what for stretch, what in rows if is_inside(day, stretch)]
                    self.same(answer, told(words, prices, work, day))

    def test_new_lists(self):
        steps(Words(), ROWS, "a").clear()
        self.same(len(steps(Words(), ROWS, "a")), 3)

    def test_wrong(self):
        self.judged(steps, [Words(), ROWS, "a"], [NO_WORDS, NO_PRICES, NO_WORKS])


class Alike(Case):
    def test_by_hand(self):
        one, other = Row(Box("a", (1, 5)), 3), Row(Box("a", (3, 9)), 4)
        for words, rows, others, answer in [
            ([], [], [], True),
            ([], [one], [one], True),
            ([], [one], [one, one], True),
            ([], [one, other], [other, one], True),
            (["newest"], [one, other], [other, one], False),
            (["cheapest"], [one, other], [other, one], True),
            ([], [one, other], [one], False),
            (["oldest"], [one, Row(Box("a", (2, 3)), 8)], [one], True),
            ([], [one], [Row(Box("a", (1, 5)), 3, 7)], True),
            (["highest"], [one, other], [Row(Box("a", (1, 5)), 3, 7), other], False),
            ([], [one], [Row(Box("a", (1, 5)), 2)], False),
            ([], [one], [Row(Box("a", (1, 4)), 3)], False),
            ([], [one], [Row(Box("a", (1, 4)), 3), Row(Box("a", (2, 5)), 3)], True),
            ([], [], [Row(Box("a", (FAR, FAR)), 0)], False),
            ([], [Row(Box("a"), 1), Row(Box("b"), 1)], [Row(Box(), 1)], False),
            (["newest"], [Row(Box(), 1), Row(Box("a"), 1)], [Row(Box(), 1)], True),
        ]:
            given = (Words(words), Prices(rows), Prices(others))
            self.same(tell_alike(*given), answer)
            self.same(tell_alike(words=given[0], one=given[2], other=given[1]), answer)
            self.same(parting_day(*given) is None, answer)

    def test_a_work_that_no_row_names(self):
        named = [Row(Box(letter), 1) for letter in "abcdef"]
        pair = parting_day(Words(["narrowest"]), Prices(named[:5] + [Row(Box(), 1)]), Prices(named[:5]))
        self.assertNotIn(pair[0], "abcde")
        self.same(told(Words(["narrowest"]), Prices(named[:5] + [Row(Box(), 1)]), *pair), 1)
        self.same(told(Words(["narrowest"]), Prices(named[:5]), *pair), "none")
        self.same(parting_day(Words(["newest"]), Prices([Row(Box(), 1)] + named[:5]), Prices([Row(Box(), 1)])), None)

    def test_plain_look(self):
        chance = random.Random(4)
        for words, prices in some_lists(5, 250):
            rows = list(prices.rows)
            change = chance.randint(0, 4)
            if change == 0:
                chance.shuffle(rows)
            elif change == 1 and rows:
                rows.pop(chance.randrange(len(rows)))
            elif change == 2 and 0 < len(rows) < 6:
                rows.append(chance.choice(rows))
            elif change == 3 and rows:
                at = chance.randrange(len(rows))
                rows[at] = rows[at].ended(10) or rows[at]
            elif rows:
                at = chance.randrange(len(rows))
                rows[at] = Row(rows[at].box, rows[at].price + chance.randint(0, 1), chance.choice([0, 1, 2]))
            other = Prices(rows)
            differ = [
                pair for pair in itertools.product("abc", range(0, 12))
                if plain_told(words.words, prices.rows, *pair) != plain_told(words.words, rows, *pair)
            ]
            self.same(tell_alike(words, prices, other), not differ)
            pair = parting_day(words, prices, other)
            self.same(pair is None, not differ)
            if pair is not None:
                self.assertNotEqual(told(words, prices, *pair), told(words, other, *pair))
                self.assertIsInstance(pair, tuple)

    def test_wrong(self):
        for call in (tell_alike, parting_day):
            self.judged(call, [Words(), ROWS, ROWS], [
                NO_WORDS, others_than(Prices, BadPrices("one")), others_than(Prices, BadPrices("other")),
            ])


class Dead(Case):
    def test_by_hand(self):
        wide, inner = Row(Box("a"), 1), Row(Box("a", (2, 3)), 2)
        for words, rows, dead in [
            ([], [], []),
            ([], [wide], []),
            (["newest"], [inner, wide], [0]),
            (["newest"], [wide, inner], []),
            ([], [wide, wide], [0, 1]),
            ([], [wide, wide, inner], [0, 1]),
            (["cheapest"], [wide, inner, Row(Box("b"), 5)], [1]),
            (["narrowest"], [Row(Box(), 9), wide, inner], []),
            (["narrowest"], [Row(Box(), 1), wide, inner], [1]),
            (["oldest"], [wide, Row(Box("b", (4, 4)), 0), Row(Box("b", (4, 4)), 0), inner], [1, 2, 3]),
        ]:
            self.same(dead_rows(Words(words), Prices(rows)), dead)
            self.same(dead_rows(words=Words(words), prices=Prices(rows)), dead)

    def test_plain_look(self):
        for words, prices in some_lists(6, 80):
            rows = prices.rows
            pairs = list(itertools.product("abc", range(0, 12)))
            answers = [plain_told(words.words, rows, *pair) for pair in pairs]
            dead = [
                at for at in range(len(rows))
                if [plain_told(words.words, rows[:at] + rows[at + 1:], *pair) for pair in pairs] == answers
            ]
            self.same(dead_rows(words, prices), dead)

    def test_never_left_by_hand(self):
        row = Row(Box("a", (0, 9)), 5, 1)
        for rows, never in [
            ([], []),
            ([row], []),
            ([row, row], []),
            ([row, row, row], []),
            ([row, Row(Box("a", (0, 9)), 6, 1), Row(Box("a", (0, 9)), 7, 1)], [1]),
            ([row, Row(Box("a", (0, 9)), 6, 2), Row(Box("a", (0, 9)), 7, 1)], []),
            ([row, Row(Box("a", (0, 8)), 6, 1), Row(Box("a", (0, 9)), 7, 1)], []),
            ([row, Row(Box("b", (0, 9)), 6, 1), Row(Box("a", (0, 9)), 7, 1)], []),
            ([row, Row(Box("a", (0, 9)), 6, 1), Row(Box("a", (0, 8)), 7, 1)], []),
        ]:
            self.same(never_left(Prices(rows)), never)
            self.same(never_left(prices=Prices(rows)), never)

    def test_never_left_by_all_words(self):
        # Of all orders of the eight words those of up to three are looked at, and some longer ones.
        orders = [words for many in range(4) for words in itertools.permutations(WORDS, many)]
        chance = random.Random(7)
        orders += [tuple(chance.sample(WORDS, chance.randint(4, 8))) for _ in range(50)]
        orders = [words for words in orders if any(word in LAST for word in live(words))]
        for _ in range(10):
            stretches = chance.sample(STRETCHES, chance.randint(1, 3))
            rows = some_rows(chance, chance.randint(3, 6), ("a", "a", None), stretches)
            lots = {tuple(applying(rows, work, day)): (work, day) for work in "ac" for day in range(0, 11)}
            left = {at for words in orders for pair in lots.values() for at in plain_left(words, rows, *pair)}
            self.same(never_left(Prices(rows)), [at for at in range(len(rows)) if at not in left])

    def test_wrong(self):
        self.judged(dead_rows, [Words(), ROWS], [NO_WORDS, NO_PRICES])
        self.judged(never_left, [ROWS], [NO_PRICES])


class Facts(Case):
    def test_the_65_tell_apart_by_lists_of_two_rows(self):
        boxes = [Box("a", (0, 9)), Box("a", (2, 5)), Box(None, (3, 7))]
        kinds = [Row(box, price, rank) for box in boxes for price in (1, 2) for rank in (0, 1)]
        pairs = list(itertools.product(kinds, kinds))

        def answers(words):
            return tuple(plain_told(words, pair, "a", 4) for pair in pairs)

        signs = {answers(words.words): words for words in all_words()}
        self.assertEqual(len(signs), 65)
        for words in all_words()[::4]:
            for pair in pairs[::5]:
                self.same(told(words, Prices(pair), "a", 4), plain_told(words.words, pair, "a", 4))
        chance = random.Random(8)
        for _ in range(40):
            words = tuple(chance.sample(WORDS, chance.randint(1, 8)))
            self.assertEqual(signs[answers(words)].words, live(words))

    def test_same_live_words_tell_the_same(self):
        chance = random.Random(9)
        for _ in range(60):
            words = Words(chance.sample(WORDS, chance.randint(2, 8)))
            prices = Prices(some_rows(chance, 6))
            for work, day in itertools.product("ac", range(1, 11)):
                self.same(told(words, prices, work, day), told(Words(words.live), prices, work, day))


if __name__ == "__main__":
    unittest.main()
