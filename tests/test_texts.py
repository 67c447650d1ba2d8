"""Texts: what is written is read back, and nothing else is read."""

import random
import unittest

from cornerplans.days import Box
from cornerplans.errors import (
    BadHouse, BadLimit, BadPlan, BadPrices, BadRow, BadRule, BadText,
)
from cornerplans.house import House
from cornerplans.moments import is_limit, is_plan
from cornerplans.prices import Prices, Row
from cornerplans.rules import Book, is_rule
from cornerplans.texts import (
    limit_text, plan_text, prices_text, read_limit, read_plan, read_prices, read_row, read_rule, read_start, read_words,
    row_text, rule_text, start_text, words_text,
)
from cornerplans.words import Words
from tests.helper import Case, any_values, others_than, some_side
from tests.test_asking import NO_WORDS, STRETCHES
from tests.test_figures import plain_text
from tests.test_house import BOOK, MUST, NEWEST, ROWS, example, shown, some_house

LARGE = 7 * 10 ** 5000 + 123
LARGE_TEXT = "7" + "0" * 4997 + "123"
HEAD = "things frame roof\nwords newest\nouts - -\nday 8\n"
START = HEAD + "frame+2 <= roof+0\nroof+0 <= frame+9\n"
WEEKS = ["newest", "oldest", "cheapest", "dearest", "highest", "lowest", "narrowest", "widest"]


def bad_texts(read, known):
    """Any values that are no text of this kind."""
    return [(value, BadText(0)) for value in any_values() if not isinstance(value, str) or value not in known]


def changed(chance, text):
    """A text with a sign or two put in, left out, or exchanged."""
    signs = list(text)
    for _ in range(chance.choice([1, 1, 2])):
        at = chance.randint(0, len(signs))
        sign = chance.choice("+-* <=0129aeflmoprt\n\t,;")
        kind = chance.choice(["in", "out", "other", "twice", "swap"])
        if kind == "in" or not signs:
            signs.insert(at, sign)
        elif kind == "out":
            del signs[at - 1]
        elif kind == "other":
            signs[at - 1] = sign
        elif kind == "twice":
            signs.insert(at, signs[at - 1])
        else:
            signs[0], signs[at - 1] = signs[at - 1], signs[0]
    return "".join(signs)


class TextCase(Case):
    def read_back(self, write, read, thing, text):
        """A thing has this text, and is what is read from it."""
        self.same(write(thing), text)
        self.assertEqual(read(text), thing)
        self.assertEqual(read(text=text), thing)

    def not_read(self, read, texts):
        for text in texts:
            self.fails(BadText(0), read, text)
            self.fails(BadText(0), read, text=text)

    def reads_just_what_is_written(self, write, read, texts, seed, times=40):
        """Whatever is read from texts with a few signs changed has just this text."""
        chance, kept = random.Random(seed), 0
        for text in texts:
            for _ in range(times):
                other = changed(chance, text)
                try:
                    thing = read(other)
                except BadText:
                    continue
                self.same(write(thing), other)
                kept += 1
        self.assertGreater(kept, len(texts))


class Pairs(TextCase):
    def test_plans_and_limits(self):
        for plan, text in [
            ((), "-"), ((("a", 0),), "a+0"), ((("a", 5),), "a+5"), ((("a", -5),), "a-5"),
            ((("abcdef", 10),), "abcdef+10"),
            ((("a", -10 ** 9), ("b", 10 ** 9)), "a-1000000000 b+1000000000"),
            ((("a", 1), ("ab", 0), ("b", -1)), "a+1 ab+0 b-1"),
            ((("frame", 13), ("roof", 15)), "frame+13 roof+15"),
            ((("a", 1), ("b", 2), ("c", 3), ("d", 4), ("e", 5), ("f", 6)), "a+1 b+2 c+3 d+4 e+5 f+6"),
        ]:
            self.read_back(plan_text, read_plan, plan, text)
            self.read_back(limit_text, read_limit, plan, text)
        for limit, text in [
            ((("a", None),), "a+*"), ((("a", None), ("b", 0), ("c", None)), "a+* b+0 c+*"),
            ((("frame", 13), ("roof", None)), "frame+13 roof+*"),
        ]:
            self.read_back(limit_text, read_limit, limit, text)
            self.not_read(read_plan, [text])
            self.fails(BadPlan("."), plan_text, limit)
        self.same(plan_text(plan=()), "-")
        self.same(limit_text(limit=()), "-")

    def test_numbers_of_any_size(self):
        for sign, number in (("+", LARGE), ("-", -LARGE)):
            self.same(plan_text((("a", number),)), "a" + sign + LARGE_TEXT)
            self.same(limit_text((("a", None), ("b", number))), "a+* b" + sign + LARGE_TEXT)
            self.assertTrue(read_plan("a" + sign + LARGE_TEXT) == (("a", number),))
            self.assertTrue(read_limit("a" + sign + LARGE_TEXT) == (("a", number),))
        self.assertEqual(plain_text(LARGE), LARGE_TEXT)

    def test_what_is_none(self):
        wrong = [
            "", " ", "--", "- ", " -", "- -", "a", "a+", "a-", "+", "+1", "-1", "1", "a1", "1+1", "a +1", "a+ 1",
            "a+1 ", " a+1", "a+1  b+1", "a+1\tb+1", "a+1\nb+1", "a+1\n", "\na+1", "a+1,b+1", "a+1b+1", "a+1 -", "- a+1",
            "a+1 b", "a-0", "a+00", "a+01", "a-01", "a-00", "a+-1", "a--1", "a++1", "a-+1", "a+1+1", "a+1-1", "a+1.0",
            "a+1_0", "a+0x1", "a+ ", "a+one", "A+1", "aB+1", "a_+1", "a1+1", "abcdefg+1", "a+1 abcdefg+1", "b+1 a+1",
            "a+1 a+1", "a+1 a+2", "ab+1 a+1", "\u00e9+1", "a+\u0661", "a+\u00b2", "a-*", "a*", "a+**", "a+*1", "a+1*",
            "*+1", "*+*", "a+None", "a=1", "a:1", "(('a', 1),)", "a+0" + "0" * 60, "a+0" + LARGE_TEXT, "a+1 b+1 ",
            "a+1 <= b+1", "None",
        ]
        for read in (read_plan, read_limit):
            self.not_read(read, wrong)
            self.judged(read, ["a+1 b-1"], [bad_texts(read, ("a+1",))])
            self.not_read(read, [None, True, 0, [], (), {}, ["a+1"], ("a+1",), (("a", 1),), b"a+1"])
        self.not_read(read_plan, ["a+*", "a+1 b+*", "a+* b+1"])

    def test_writing_what_is_none(self):
        wrong = [value for value in any_values() if not is_plan(value)]
        wrong += [[("a", 1)], (("a", True),), (("b", 1), ("a", 1))]
        self.judged(plan_text, [(("a", 1),)], [[(value, BadPlan(".")) for value in wrong]])
        wrong = [value for value in any_values() if not is_limit(value)] + [[], (("a", False),)]
        self.judged(limit_text, [(("a", None),)], [[(value, BadLimit(".")) for value in wrong]])

    def test_by_chance(self):
        chance = random.Random(1)
        texts = []
        for _ in range(150):
            things = chance.sample(["a", "b", "ab", "roof", "frame", "abcdef"], 4)
            limit = some_side(chance, things, [None, 0, 1, -1, 99, -10 ** 20, 10 ** 59, -10 ** 60])
            text = limit_text(limit)
            ends = ["+*" if end is None else ("-" if end < 0 else "+") + str(abs(end)) for _, end in limit]
            self.same(text, " ".join(name + end for (name, _), end in zip(limit, ends)) or "-")
            self.same(read_limit(text), limit)
            texts.append(text)
        self.reads_just_what_is_written(limit_text, read_limit, texts, 2)
        self.reads_just_what_is_written(plan_text, read_plan, [text for text in texts if "*" not in text], 3)


class Rules(TextCase):
    def test_rules(self):
        for rule, text in [
            (((), ()), "- <= -"), (((("a", 0),), ()), "a+0 <= -"), (((), (("a", -3),)), "- <= a-3"),
            (((("frame", 2),), (("roof", 0),)), "frame+2 <= roof+0"),
            (((("a", 1), ("b", -2)), (("a", 0), ("c", 10 ** 20))), "a+1 b-2 <= a+0 c+100000000000000000000"),
        ]:
            self.read_back(rule_text, read_rule, rule, text)
            self.same(rule_text(rule=rule), text)
        self.same(rule_text(((("a", LARGE),), (("b", -LARGE),))), f"a+{LARGE_TEXT} <= b-{LARGE_TEXT}")
        self.assertTrue(read_rule(f"a+{LARGE_TEXT} <= b-{LARGE_TEXT}") == ((("a", LARGE),), (("b", -LARGE),)))

    def test_what_is_none(self):
        self.not_read(read_rule, [
            "", "<=", " <= ", "a+1", "a+1 <=", "<= a+1", "a+1 <= ", " <= a+1", "a+1<=b+1", "a+1 <=b+1", "a+1<= b+1",
            "a+1  <= b+1", "a+1 <=  b+1", "a+1 < b+1", "a+1 =< b+1", "a+1 >= b+1", "a+1 <= b+1 <= c+1",
            "a+1 <= b+1 <= -", "a+* <= b+1", "a+1 <= b+*", "b+1 a+1 <= c+1", "a+1 <= c+1 b+1", "a+1 <= b",
            "a+1 <= b+01", "a-0 <= b+1", "abcdefg+1 <= b+1", "a+1 <= b+1\n", " a+1 <= b+1", "a+1 <= b+1 ",
            "- - <= a+1", "a+1 <= -1",
            "a+1 <= a+1 a+1", "a+1\n<= b+1", "a+1 \n<= b+1", "a+1 <= b+1\n- <= -",
        ])
        self.judged(read_rule, ["a+1 <= b+1"], [bad_texts(read_rule, ())])
        wrong = [value for value in any_values() if not is_rule(value)] + [(), [(), ()], ((), []), ((("a", None),), ())]
        self.judged(rule_text, [((), ())], [[(value, BadRule(".")) for value in wrong]])

    def test_by_chance(self):
        chance = random.Random(4)
        texts = []
        for _ in range(150):
            left, right = [some_side(chance, ["a", "b", "roof"], [0, 1, -1, 12, -345]) for _ in range(2)]
            text = rule_text((left, right))
            self.same(text, plan_text(left) + " <= " + plan_text(right))
            self.same(read_rule(text), (left, right))
            texts.append(text)
        self.reads_just_what_is_written(rule_text, read_rule, texts, 5)


class Rows(TextCase):
    def test_rows(self):
        for row, text in [
            (Row(Box(), 0), "* * * 0 0"), (Row(Box("frame", (None, 20)), 3), "frame * 20 3 0"),
            (Row(Box("abcdef", (-7, None)), 12, 9), "abcdef -7 * 12 9"), (Row(Box(None, (0, 0)), 1, 1), "* 0 0 1 1"),
            (Row(Box("a", (-10 ** 30, -1)), 10 ** 30), f"a -{10 ** 30} -1 {10 ** 30} 0"),
        ]:
            self.read_back(row_text, read_row, row, text)
            self.same(row_text(row=row), text)
        row = Row(Box("a", (-LARGE, LARGE)), LARGE)
        self.same(row_text(row), f"a -{LARGE_TEXT} {LARGE_TEXT} {LARGE_TEXT} 0")
        self.assertEqual(read_row(row_text(row)), row)

    def test_what_is_none(self):
        self.not_read(read_row, [
            "", " ", "* * * 0", "* * * 0 0 0", "* * * 0 0 ", " * * * 0 0", "*  * * 0 0", "* * * 0 0\n", "\n* * * 0 0",
            "* * * * 0", "* * * 0 *", "a b * 0 0", "a * b 0 0", "A * * 0 0", "abcdefg * * 0 0", "- * * 0 0",
            "a+1 * * 0 0", "** * * 0 0", "a * * -1 0", "a * * 0 -1", "a * * 0 10", "a * * 00 0", "a * * 01 0",
            "a * * 0 01", "a * * +1 0", "a -0 * 0 0", "a 00 * 0 0", "a 01 * 0 0", "a +1 * 0 0", "a -01 * 0 0",
            "a * -0 0 0", "a * +0 0 0", "a 2 1 0 0", "a 0 -1 0 0", "a 1,2 * 0 0", "a - * 0 0", "a * - 0 0",
            "a None * 0 0", "a * None 0 0", "None * * 0 0",
            "a 1.0 * 0 0", "a 1_0 * 0 0", "a \u0661 * 0 0", "a * * 0 \u00b2", "a\t* * 0 0", "a ** * 0 0", "a * * 0 0 a",
            " * * 0 0", "a  * 0 0", "a *  0 0", "a * *  0", "a * * 0 ",
        ])
        self.judged(read_row, ["* * * 0 0"], [bad_texts(read_row, ())])
        self.judged(row_text, [ROWS[0]], [others_than(Row, BadRow("row"))])

    def test_by_chance(self):
        chance = random.Random(6)
        texts = []
        for _ in range(150):
            row = Row(
                Box(chance.choice([None, "a", "roof"]), chance.choice(STRETCHES)), chance.choice([0, 7, 10 ** 12]),
                chance.randint(0, 9))
            text = row_text(row)
            first, last = ["*" if end is None else str(end) for end in row.box.days]
            self.same(text, f"{row.box.work or '*'} {first} {last} {row.price} {row.rank}")
            self.assertEqual(read_row(text), row)
            texts.append(text)
        self.reads_just_what_is_written(row_text, read_row, texts, 7)


class WordTexts(TextCase):
    def test_words(self):
        for words in ([], ["newest"], ["narrowest", "newest"], WEEKS, WEEKS[::-1]):
            self.read_back(words_text, read_words, Words(words), " ".join(words))
        self.same(words_text(words=Words()), "")
        self.same(read_words("newest oldest").words, ("newest", "oldest"))

    def test_what_is_none(self):
        self.not_read(read_words, [
            " ", "-", "new", "Newest", "newest ", " newest", "newest  oldest", "newest newest", "newest,oldest",
            "newest\n", "newest oldest newest", "newest\noldest", "newestoldest", "\n", "*", "newest -", "words newest",
        ])
        self.judged(read_words, ["newest"], [bad_texts(read_words, ("", "newest"))])
        self.judged(words_text, [NEWEST], [NO_WORDS])


class PriceTexts(TextCase):
    def test_prices(self):
        self.read_back(prices_text, read_prices, Prices(), "")
        self.read_back(prices_text, read_prices, Prices(ROWS), (
            "frame * * 8 0\nframe * 20 3 0\nframe * 10 5 0\nroof * * 9 0\nroof * 15 4 0\n"))
        self.read_back(prices_text, read_prices, Prices([ROWS[1]] * 6), "frame * 20 3 0\n" * 6)
        self.same(prices_text(prices=Prices()), "")

    def test_lines(self):
        line = "frame * 20 3 0\n"
        for text, at in [
            ("\n", 0), (" ", 0), ("a", 0), (line[:-1], 0), (line * 3 + line[:-1], 3), (line * 5 + line[:-1], 5),
            (line * 7, 6), (line * 6 + line[:-1], 6), (line * 9, 6), (line * 6 + "\n", 6), (line * 6 + " ", 6),
            (line + "\n" + line, 1), ("\n" + line, 0), (line + "\n", 1), (line * 2 + "frame * 20 3\n" + line, 2),
            (line * 2 + "frame * 20 3 0 \n" + line, 2), (line * 2 + " frame * 20 3 0\n", 2), (line * 3 + "\t\n", 3),
            (line + line[:-1] + "\r\n", 1), (line[:-1] + line, 0), (line[:-1] + " " + line, 0), (line + "x", 1),
            ("a * * 0 0\na * * -1 0\na * * -1 0\n", 1), ("a * * 0 10\n" + line * 7, 0), (line * 8 + "x", 6),
            (line * 4 + "x\n" + line * 4, 4), ("- - -", 0), (line * 6 + "x", 6),
        ]:
            self.fails(BadText(at), read_prices, text)
            self.fails(BadText(at), read_prices, text=text)

    def test_wrong(self):
        self.judged(read_prices, [""], [bad_texts(read_prices, ("",))])
        self.judged(prices_text, [Prices()], [others_than(Prices, BadPrices(None))])


def plain_line(lines):
    """A plain look at the lines of a start, each told without its end: the first one that cannot stand there."""
    for at, line in enumerate(lines):
        head = ["things", "words", "outs", "day"][at] if at < 4 else None
        try:
            if at == 0:
                names = line.split(" ")[1:]
                Book(names)
                is_right = sorted(names) == names
            elif at == 1:
                is_right = line == "words" or bool(line.removeprefix("words ")) and bool(
                    read_words(line.removeprefix("words ")))
            elif at == 2:
                worths = line.split(" ")[1:]
                is_right = len(worths) == len(names) and all(
                    worth == "-" or worth.isdigit() and str(int(worth)) == worth for worth in worths)
            elif at == 3:
                is_right = line == f"day {int(line[4:])}"
            else:
                Book(names, [read_rule(line)])
                is_right = at < 16
        except ValueError:
            return at
        if not is_right or (at < 4 and line.split(" ")[0] != head):
            return at
    return None if len(lines) >= 4 else len(lines)


class Starts(TextCase):
    def test_starts(self):
        house = House(BOOK, NEWEST, MUST, 8)
        self.read_back(start_text, read_start, house, START)
        self.same(shown(read_start(START)), shown(house))
        self.same(start_text(house=house), START)
        house = House(Book(["b", "a"]), Words(), {"b": 7, "a": None}, -3)
        self.read_back(start_text, read_start, house, "things a b\nwords\nouts - 7\nday -3\n")
        house = House(Book(["a"]), Words(WEEKS))
        self.read_back(start_text, read_start, house, f"things a\nwords {' '.join(WEEKS)}\nouts 0\nday 0\n")
        things, many = ["a", "ab", "abcdef", "b"], 10 ** 20
        house = House(Book(things, [((), ())] * 12), Words(["widest", "lowest"]), {name: many for name in things}, many)
        head = f"things a ab abcdef b\nwords widest lowest\nouts {many} {many} {many} {many}\nday {many}\n"
        self.read_back(start_text, read_start, house, head + "- <= -\n" * 12)

    def test_numbers_of_any_size(self):
        rule = ((("a", LARGE),), (("a", -LARGE),))
        house = House(Book(["a"], [rule]), Words(), {"a": LARGE}, -LARGE)
        text = f"things a\nwords\nouts {LARGE_TEXT}\nday -{LARGE_TEXT}\na+{LARGE_TEXT} <= a-{LARGE_TEXT}\n"
        self.same(start_text(house), text)
        self.assertTrue(read_start(text) == house)
        self.assertTrue(read_start(text).today == -LARGE)

    def test_a_house_with_deeds(self):
        house = example()
        house.add(((("roof", 0),), (("frame", 5),)))
        house.strike(0)
        house.pass_to(11)
        house.do("frame")
        ahead = shown(house)
        self.same(start_text(house), START)
        self.same(shown(house), ahead)
        self.same(shown(read_start(start_text(house))), shown(House(BOOK, NEWEST, MUST, 8)))
        self.same(read_start(START).log, [])
        other = read_start(START)
        for deed in house.log:
            {"add": other.add, "strike": other.strike, "put": other.put, "day": other.pass_to, "do": other.do}[deed[0]](
                *deed[1:])
        self.assertEqual(other, house)

    def test_lines(self):
        lines = START.splitlines()
        for at, others in enumerate([
            ["", "things", "things ", "things frame", "things roof frame", "things frame frame", "things frame  roof",
             "things frame roof ", " things frame roof", "thing frame roof", "frame roof", "things frame roofing",
             "things Frame roof", "Things frame roof", "things a b c d e", "things - -", "things frame,roof"],
            ["", "words ", "word newest", "newest", "words new", "words newest newest", "words newest ",
             "words  newest", " words newest", "words -", "words newest,oldest", "outs - -", "words Newest"],
            ["", "outs", "outs -", "outs - - -", "outs -  -", "outs - - ", "outs 0 -1", "outs -1 0", "outs 00 0",
             "outs 0 01", "outs None None", "outs * *", "outs +1 0", "outs -0 0", "out - -", "outs a b", "outs 0,0",
             "- -"],
            ["", "day", "day ", "day 08", "day +8", "day -0", "day 8 9", "day  8", "day 8 ", "day *", "day -",
             "day None", "days 8", "8", " day 8", "day eight", "day 8.0"],
            ["", "-", "frame+2 <= room+0", "room+2 <= roof+0", "frame+2", "frame+2 <= roof+*", "frame+2 < roof+0",
             "frame+02 <= roof+0", "frame+2 <= roof+0 ", " frame+2 <= roof+0", "rule frame+2 <= roof+0",
             "things frame roof", "roof+0 frame+2 <= -", "frame+2 <= roof-0", "day 8"],
        ]):
            for other in others:
                if (at, other) != (0, "things frame"):
                    self.wrong([*lines[:at], other, *lines[at + 1:]], at)
                self.wrong([*lines[:at], other + " ", *lines[at + 1:]], at)
        # With one thing the first line may stand there, but then the outs may not.
        self.wrong(["things frame", *lines[1:]], 2)
        self.wrong(["things frame", "words", "outs -", "day 0", *lines[4:]], 4)

    def wrong(self, lines, at):
        """The line with this number cannot stand there, whatever stands behind it."""
        for behind in (lines, lines[:at + 1], [*lines, ""], [*lines, "x"]):
            self.fails(BadText(at), read_start, "".join(line + "\n" for line in behind))
            if behind[at:] != [""]:
                self.fails(BadText(at), read_start, text="\n".join(behind))

    def test_lines_left_out_and_exchanged(self):
        lines = START.splitlines()
        self.fails(BadText(0), read_start, "")
        for many in range(1, 4):
            self.fails(BadText(many), read_start, "".join(line + "\n" for line in lines[:many]))
        self.assertEqual(read_start(HEAD), House(Book(BOOK.things), NEWEST, MUST, 8))
        for at in range(4):
            self.wrong(lines[:at] + lines[at + 1:], at)
            self.wrong(lines[:at + 1] + lines[at:], at + 1)
        for at in range(3):
            self.wrong([*lines[:at], lines[at + 1], lines[at], *lines[at + 2:]], at)
        self.wrong([*lines[:3], lines[4], lines[3], lines[5]], 3)
        # Rules may stand there twice, in any order.
        self.assertEqual(
            read_start(HEAD + lines[5] + "\n" + lines[4] + "\n" + lines[5] + "\n"),
            House(Book(BOOK.things, [BOOK[1], BOOK[0], BOOK[1]]), NEWEST, MUST, 8))
        self.assertEqual(len(read_start(HEAD + "- <= -\n" * 12).book), 12)
        self.fails(BadText(16), read_start, HEAD + "- <= -\n" * 13)
        self.fails(BadText(16), read_start, HEAD + "- <= -\n" * 15)
        self.fails(BadText(16), read_start, HEAD + "- <= -\n" * 12 + "x")
        self.fails(BadText(5), read_start, HEAD + "- <= -\nx\n" + "- <= -\n" * 15)

    def test_a_missing_line_feed(self):
        lines = START.splitlines()
        for at in range(len(lines)):
            self.fails(BadText(at), read_start, "\n".join(lines[:at + 1]))
        self.fails(BadText(2), read_start, "\n".join(lines[:2]) + "\nouts - - day 8\n")
        self.fails(BadText(4), read_start, HEAD + "\n")
        self.fails(BadText(0), read_start, "\n" + START)
        self.fails(BadText(0), read_start, START.replace("\n", "\r\n"))

    def test_wrong(self):
        self.judged(read_start, [START], [bad_texts(read_start, ())])
        self.judged(start_text, [example()], [others_than(House, BadHouse("."))])

    def test_by_chance(self):
        chance = random.Random(8)
        texts, kept = [], 0
        for _ in range(60):
            book, words, outs, day = some_house(chance)
            house = House(book, words, outs, day)
            text = start_text(house)
            self.assertEqual(read_start(text), house)
            lines = text.splitlines()
            for _ in range(40):
                others = list(lines)
                for _ in range(chance.choice([1, 1, 2])):
                    at, to = chance.randrange(len(others)), chance.randrange(len(others))
                    kind = chance.choice(["out", "twice", "swap", "sign", "sign", "sign"])
                    if kind == "out" and len(others) > 1:
                        del others[at]
                    elif kind == "twice":
                        others.insert(to, others[at])
                    elif kind == "swap":
                        others[at], others[to] = others[to], others[at]
                    else:
                        others[at] = changed(chance, others[at]).replace("\n", " ")
                self.judge("".join(line + "\n" for line in others), plain_line(others))
                kept += plain_line(others) is None
            texts.append(text)
        self.assertGreater(kept, 60)
        self.reads_just_what_is_written(start_text, read_start, texts, 9, 100)

    def judge(self, text, at):
        if at is None:
            self.same(start_text(read_start(text)), text)
        else:
            self.fails(BadText(at), read_start, text)


if __name__ == "__main__":
    unittest.main()
