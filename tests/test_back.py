"""Told back: what receipts tell of the order of words."""

import collections
import itertools
import random
import unittest

from cornerplans.asking import told
from cornerplans.back import (
    apart, could_tell, is_next_day, next_day, offers_that_fit, sure_prices, words_that_fit,
)
from cornerplans.corners import price_above
from cornerplans.days import Box
from cornerplans.errors import BadBook, BadOffer, BadReceipts, NoPlans, TooMany
from cornerplans.offers import Offer, offer_of
from cornerplans.plans import Plans, plans_of
from cornerplans.prices import Prices, Row
from cornerplans.words import Words, all_words
from tests.helper import Case, any_values, grid
from tests.test_asking import NO_DAYS, NO_PRICES, NO_WORKS, plain_told, some_rows
from tests.test_cells import NO_PLANS
from tests.test_corners import AB, FAR, NO_FLOORS
from tests.test_offers import NO_OUTS, NO_THINGS
from tests.test_plans import BOOK

PRICES = Prices([Row(Box(), 5), Row(Box("a", (0, 9)), 3), Row(Box("a", (5, 9)), 7)])
ALL = all_words()
# All days on which something may turn in the lists of some_rows, and some beside them; c is named by no row.
DAYS = range(-1, 12)
WORKS = "abc"
RECEIPT = ("a", 7, 7)


def no_receipts():
    values = [value for value in any_values() if value not in ([], (), (("a", 1, 2),))]
    wrong = [(value, BadReceipts(0 if isinstance(value, (list, tuple)) else None)) for value in values]
    for item in [
        None, (), ("a", 7), ("a", 7, 7, 7), ["a", 7, 7], ("A", 7, 7), ("", 7, 7), ("abcdefg", 7, 7), (None, 7, 7),
        (7, "a", 7), ("a", "7", 7), ("a", None, 7), ("a", True, 7), ("a", (7,), 7), ("a", 7, -1), ("a", 7, True),
        ("a", 7, False), ("a", 7, None), ("a", 7, "7"), ("a", 7, "None"), ("a", 7, "opened"), ("a", 7, ""),
        ("a", 7, ["none"]), ("a", 7, ("open",)), ("a", 7, {}), ("a", [7], 7), (["a"], 7, 7), {"a": 7}, "a77", True,
        ("a", 7, "Open"), ("a", 7, ("none", "open")), ("a", 7, {"none": 1}),
    ]:
        wrong += [([item], BadReceipts(0)), ([RECEIPT, item], BadReceipts(1)), ((item, RECEIPT), BadReceipts(0))]
        wrong += [([RECEIPT] * 20 + [item], BadReceipts(20)), ([RECEIPT] * 3 + [item] * 20, BadReceipts(3))]
    wrong += [([RECEIPT] * 21, TooMany(20)), (tuple([RECEIPT] * 40), TooMany(20))]
    wrong += [([item] + [RECEIPT] * 20, BadReceipts(0))]
    return wrong + [(value, BadReceipts(None)) for value in ({}, {RECEIPT: 1}, "receipts", None, 0, True)]


NO_RECEIPTS = no_receipts()


def fitting(rows, receipts):
    """A plain look: all words by which each receipt is told."""
    return [words for words in ALL if all(
        plain_told(words.words, rows, work, day) == answer for work, day, answer in receipts)]


def table(words, rows):
    return [plain_told(words.words, rows, work, day) for work, day in itertools.product(WORKS, DAYS)]


def some_cases(seed, many):
    """Rows and receipts by chance, most of them told by some words."""
    chance = random.Random(seed)
    for _ in range(many):
        rows, receipts = some_rows(chance, chance.randint(0, 6)), []
        teller = chance.choice(ALL).words
        for _ in range(chance.randint(0, 3)):
            work, day = chance.choice(WORKS), chance.choice(DAYS)
            answer = plain_told(teller, rows, work, day)
            if chance.random() < 0.1:
                answer = chance.choice([0, 1, 2, "none", "open"])
            receipts.append((work, day, answer))
        yield rows, receipts


class Fitting(Case):
    def told_words(self, found, wanted):
        self.same([words.words for words in found], [words.words for words in wanted])

    def test_by_hand(self):
        told_at_7 = words_that_fit(PRICES, [RECEIPT])
        self.told_words(told_at_7, [words for words in ALL if told(words, PRICES, "a", 7) == 7])
        for order, answer in [
            (("narrowest",), True), (("newest",), True), (("dearest",), True), (("highest", "narrowest"), True),
            ((), False), (("oldest",), False), (("cheapest",), False), (("narrowest", "oldest"), True),
            (("widest", "dearest"), False), (("highest",), False), (("highest", "newest"), True),
        ]:
            self.same(Words(order) in told_at_7, answer)
        self.told_words(words_that_fit(prices=PRICES, receipts=(RECEIPT, ("a", 3, 3))), [
            words for words in told_at_7 if told(words, PRICES, "a", 3) == 3])
        self.told_words(words_that_fit(PRICES, [("a", 7, "open")]), [
            Words(order) for order in [(), ("highest",), ("lowest",)]])
        self.told_words(words_that_fit(PRICES, [("b", 7, 5)]), ALL)
        self.told_words(words_that_fit(Prices(), [("b", 7, "none")]), ALL)
        self.told_words(words_that_fit(PRICES, ()), ALL)
        for receipts in [[("b", 7, 0)], [("b", 7, "none")], [("a", 7, 7), ("a", 7, 5)], [("a", 7, 10 ** 30)]]:
            self.told_words(words_that_fit(PRICES, receipts), [])
        self.told_words(words_that_fit(Prices([Row(Box(), 0)]), [("a", 0, 0)]), ALL)
        self.told_words(words_that_fit(Prices([Row(Box(), 1)]), [("a", 1, 1)] * 20), ALL)

    def test_plain_look(self):
        for rows, receipts in some_cases(1, 60):
            self.told_words(words_that_fit(Prices(rows), receipts), fitting(rows, receipts))

    def test_wrong(self):
        for call in (words_that_fit, apart, next_day):
            self.judged(call, [PRICES, [RECEIPT]], [NO_PRICES, NO_RECEIPTS])


class Apart(Case):
    def test_by_hand(self):
        lots = apart(PRICES, [RECEIPT])
        self.same(lots[0][0].words, ("dearest",))
        self.assertEqual(sorted(len(lot) for lot in lots), sorted(len(lot) for lot in apart(
            prices=PRICES, receipts=(RECEIPT,))))
        self.same([[words.words for words in lot] for lot in apart(Prices(), [])], [[words.words for words in ALL]])
        self.same(apart(Prices(), [("a", 0, 3)]), [])
        self.same(len(apart(Prices([Row(Box(), 5), Row(Box(), 6)]), [])), 3)

    def test_plain_look(self):
        sizes = set()
        for rows, receipts in some_cases(2, 40):
            lots = []
            for words in fitting(rows, receipts):
                told_so = table(words, rows)
                if told_so in [row for row, _ in lots]:
                    [lot for row, lot in lots if row == told_so][0].append(words.words)
                else:
                    lots.append((told_so, [words.words]))
            sizes.add(len(lots))
            found = apart(Prices(rows), receipts)
            self.same([[words.words for words in lot] for lot in found], [lot for _, lot in lots])
        self.assertTrue({0, 1, 2, 3, 4} <= sizes)

    def test_new_lists(self):
        lots = apart(PRICES, [])
        lots[0].clear()
        lots.clear()
        self.assertTrue(apart(PRICES, [])[0])


class CouldTell(Case):
    def test_by_hand(self):
        self.same(could_tell(PRICES, [], "b", 0), [(5, 65)])
        self.same(could_tell(prices=PRICES, receipts=[], work="b", day=0), [(5, 65)])
        self.same(could_tell(Prices(), (), "b", 0), [("none", 65)])
        self.same(could_tell(PRICES, [("b", 0, 6)], "b", 0), [])
        answers = could_tell(PRICES, [], "a", 7)
        self.same([answer for answer, _ in answers], [3, 5, 7, "open"])
        self.same((sum(many for _, many in answers), answers[-1]), (65, ("open", 3)))
        self.same(could_tell(PRICES, [("a", 7, "open")], "a", FAR), [(5, 3)])

    def test_plain_look(self):
        chance = random.Random(3)
        for rows, receipts in some_cases(4, 40):
            found = fitting(rows, receipts)
            for work, day in [(chance.choice(WORKS), chance.choice(DAYS)) for _ in range(4)]:
                answers = [plain_told(words.words, rows, work, day) for words in found]
                numbers = sorted({answer for answer in answers if not isinstance(answer, str)})
                wanted = [(answer, answers.count(answer)) for answer in [*numbers, "none", "open"] if answer in answers]
                self.same(could_tell(Prices(rows), receipts, work, day), wanted)

    def test_wrong(self):
        self.judged(could_tell, [PRICES, [RECEIPT], "a", 0], [NO_PRICES, NO_RECEIPTS, NO_WORKS, NO_DAYS])


class NextDay(Case):
    def test_by_hand(self):
        self.same(next_day(Prices(), []), None)
        self.same(next_day(PRICES, [("b", 0, 6)]), None)
        self.same(next_day(PRICES, [("a", 7, "open"), ("a", 2, "open")]), None)
        work, day = next_day(prices=PRICES, receipts=[])
        self.same((work, 0 <= day <= 9), ("a", True))
        # 31 tell 3, or 5, ahead of day 5, and 31 tell 7 from then on; nobody tells anything else than 5 later.
        for thing, answer in [
            (("a", 0), True), (("a", 4), True), (("a", 5), True), (("a", 9), True), (("a", -1), False),
            (("a", 10), False), (("b", 5), False),
            (["a", 5], False), (("a",), False), (("a", 5, 5), False), (("a", True), False), (("a", "5"), False),
            (("A", 5), False), (("a", None), False), ((5, "a"), False), (("a", (5,)), False),
        ]:
            self.same(is_next_day(PRICES, [], thing), answer)
            self.same(is_next_day(prices=PRICES, receipts=(), thing=thing), answer)
        for value in any_values():
            if value != ("a", 1):
                self.same(is_next_day(PRICES, [], value), False)

    def test_a_work_that_no_row_names(self):
        prices = Prices([Row(Box("a"), 1), Row(Box(), 2), Row(Box(), 3)])
        self.same(next_day(prices, [])[0], "b")
        for work, answer in [("a", False), ("b", True), ("zz", True)]:
            self.same(is_next_day(prices, [], (work, FAR)), answer)
        prices = Prices([Row(Box("a"), 2), Row(Box("b"), 2), Row(Box(None, (0, 0)), 3), Row(Box(None, (0, 0)), 4)])
        self.same(is_next_day(prices, [("a", 0, 3)], ("c", 0)), next_day(prices, [("a", 0, 3)]) is not None)

    def test_plain_look(self):
        seen = set()
        for rows, receipts in some_cases(5, 50):
            found = [table(words, rows) for words in fitting(rows, receipts)]
            pairs = list(itertools.product(WORKS, DAYS))
            most = {
                pair: max(collections.Counter(row[at] for row in found).values(), default=0)
                for at, pair in enumerate(pairs)
            }
            alike = all(row == found[0] for row in found)
            pair = next_day(Prices(rows), receipts)
            seen.add((pair is None, len(found) == 0))
            self.same(pair is None, alike)
            if pair is not None:
                self.same(is_next_day(Prices(rows), receipts, pair), True)
                if pair in most:
                    self.same(most[pair], min(most.values()))
            for pair in pairs[::3]:
                answer = not alike and most[pair] == min(most.values())
                self.same(is_next_day(Prices(rows), receipts, pair), answer)
        self.same(len(seen), 3)

    def test_wrong(self):
        self.judged(is_next_day, [PRICES, [RECEIPT], None], [NO_PRICES, NO_RECEIPTS, []])


class Offers(Case):
    def test_by_hand(self):
        outs = {"a": 4, "b": None}
        offers = offers_that_fit(PRICES, [("b", 0, 5)], ["b", "a"], outs)
        wanted = []
        for words in ALL:
            offer = offer_of(words, PRICES, ["a", "b"], outs)
            if offer not in wanted:
                wanted.append(offer)
        self.assertEqual(offers, wanted)
        self.assertEqual(offers_that_fit(prices=PRICES, receipts=(), things=("a", "b"), outs=outs), wanted)
        self.assertEqual(offers_that_fit(Prices(), [], ["a"]), [Offer(["a"], {"a": [((None, None), None)]})])
        self.same(offers_that_fit(PRICES, [("b", 0, 6)], ["a"]), [])
        # Words that tell "open" at the least price have the same offer as those that tell the cheapest row.
        self.assertLess(len(wanted), len(apart(PRICES, [])))

    def test_plain_look(self):
        for rows, receipts in some_cases(6, 30):
            wanted = []
            for words in fitting(rows, receipts):
                offer = offer_of(words, Prices(rows), ["a", "c"], {"a": None, "c": 2})
                if not any(other == offer for other in wanted):
                    wanted.append(offer)
            self.assertEqual(offers_that_fit(Prices(rows), receipts, ["c", "a"], {"a": None, "c": 2}), wanted)

    def test_sure_prices_by_hand(self):
        one = Plans(["a"], [(("a", 0),)])
        self.same(sure_prices(one, PRICES, [], (("a", 5),)), [3, 5])
        self.same(sure_prices(one, PRICES.with_ended(0, 10), [], (("a", 7),)), [3, 5, 7])
        self.same(sure_prices(plans=one, prices=PRICES, receipts=[RECEIPT], floors=(("a", 10),)), [5])
        self.same(sure_prices(one, PRICES, [], ()), [0])
        self.same(sure_prices(one, PRICES, [("b", 0, 6)], ()), [])
        self.same(sure_prices(one, Prices(), [], (("a", 0),)), [None])
        self.same(sure_prices(Plans(["a"]), PRICES, [], (("a", 0),)), [None])

    def test_none_behind_the_numbers(self):
        # By no words is there a price for some words alone, but by the rules only some plans are there.
        tied = Plans(["a", "b"], [(("a", 0), ("b", 0))])
        prices = Prices([Row(Box("a", (None, 3)), 2), Row(Box("b", (2, None)), 10), Row(Box("b", (2, None)), 12)])
        self.same(sure_prices(tied, prices, [], (("a", 0),)), [12, 14])
        self.same(sure_prices(tied, prices, [], (("a", 4),)), [None])

    def test_sure_prices_plain_look(self):
        chance, seen = random.Random(7), set()
        plans = plans_of(BOOK.with_rule(((("roof", 0),), (("frame", 4),))))
        rename = {"a": "frame", "b": "roof", "c": "c", None: None}
        for rows, receipts in some_cases(8, 25):
            prices = Prices([Row(Box(rename[row.box.work], row.box.days), row.price, row.rank) for row in rows])
            receipts = [(rename[work], day, answer) for work, day, answer in receipts]
            for floors in chance.sample(grid(["frame", "roof"], [0, 5, 8]), 3):
                found = {price_above(plans, offer_of(words, prices, ["frame", "roof"]), floors)
                         for words in words_that_fit(prices, receipts)}
                wanted = sorted(price for price in found if price is not None) + [None] * (None in found)
                seen.add((None in found, len(found)))
                self.same(sure_prices(plans, prices, receipts, floors), wanted)
        self.assertTrue({(True, 1), (False, 2), (False, 1)} <= seen)

    def test_wrong(self):
        outs = [(value, BadOffer("outs")) for value in NO_OUTS if value is not None]
        self.judged(offers_that_fit, [PRICES, [RECEIPT], ["a", "b"], {"a": 1, "b": None}], [
            NO_PRICES, NO_RECEIPTS, NO_THINGS, outs])
        nothing = [("b", 0, 6)]
        self.fails(BadBook("things"), offers_that_fit, PRICES, nothing, ["a", "a"], None)
        self.fails(BadOffer("outs"), offers_that_fit, PRICES, nothing, ["a"], {"b": 1})
        self.judged(sure_prices, [AB, PRICES, [RECEIPT], ()], [NO_PLANS, NO_PRICES, NO_RECEIPTS, NO_FLOORS])
        self.fails(NoPlans("."), sure_prices, None, PRICES, nothing, ())

    def test_what_is_passed_stays(self):
        receipts = [RECEIPT]
        for call in (words_that_fit, apart, next_day):
            call(PRICES, receipts)
        self.same(receipts, [RECEIPT])


if __name__ == "__main__":
    unittest.main()
