"""A desk: each form of a line and its answer, and lines that have none."""

import random
import unittest

from cornerplans.asking import steps, told
from cornerplans.corners import price_above
from cornerplans.desk import Desk
from cornerplans.errors import BadText, CornerError
from cornerplans.house import House
from cornerplans.texts import limit_text, plan_text, read_plan, row_text, rule_text, start_text
from tests.helper import Case, any_values
from tests.test_figures import plain_text
from tests.test_house import BOOK, MUST, NEWEST, ROWS, call_of, some_deed, some_house
from tests.test_texts import HEAD, LARGE, LARGE_TEXT, START, bad_texts, changed

QUESTIONS = ["price", "best", "corners", "now", "done", "told frame", "steps frame", "steps roof", "above frame+14"]
BEHIND = plain_text(LARGE + 1)
OPEN = "things a b\nwords\nouts 0 3\nday 0\n"


def started(text=START):
    """The desk of the document's house, with all its rows."""
    desk = Desk(text)
    for row in ROWS:
        desk.say("put " + row_text(row))
    return desk


class DeskCase(Case):
    def says(self, desk, answers):
        """The desk answers these lines so, one after the other."""
        for line, answer in answers:
            self.assertEqual((line, desk.say(line)), (line, answer))

    def stays(self, desk, line, answer):
        """The desk answers so, and nothing is changed."""
        ahead = [desk.say(question) for question in QUESTIONS]
        self.assertEqual((line, desk.say(line)), (line, answer))
        self.assertEqual((line, desk.say(line=line)), (line, answer))
        self.same([desk.say(question) for question in QUESTIONS], ahead)


class Answers(DeskCase):
    def test_the_example_of_the_document(self):
        self.says(Desk(START), [
            ("price", "none"), ("best", "none"), ("corners", "none"), ("now", "none"), ("done", "none"),
            ("told frame", "none"), ("steps frame", "* * none"), ("above -", "none"),
            ("put frame * * 8 0", "ok"), ("put frame * 20 3 0", "ok"), ("put frame * 10 5 0", "ok"),
            ("price", "none"), ("put roof * * 9 0", "ok"), ("price", "12"), ("put roof * 15 4 0", "ok"),
            ("price", "7"), ("now", "none"), ("told frame", "5"), ("told roof", "4"), ("told zz", "none"),
            ("corners", "7 frame+13 roof+15; 12 frame+20 roof+29; 17 frame+* roof+*"),
            ("steps frame", "* 10 5; 11 20 3; 21 * 8"), ("steps roof", "* 15 4; 16 * 9"), ("steps zz", "* * none"),
            ("above -", "7"), ("above frame+13", "7"), ("above frame+14", "12"), ("above roof+16", "12"),
            ("above frame+14 roof+30", "17"), ("day 11", "ok"), ("now", "frame"), ("do frame", "ok"),
            ("done", "frame 11 3"), ("corners", "7 frame+11 roof+15; 12 frame+11 roof+20"), ("day 16", "ok"),
            ("price", "12"), ("best", "frame+11 roof+20"), ("above frame+12", "none"), ("now", "roof"),
            ("do roof", "ok"), ("done", "frame 11 3; roof 16 9"), ("best", "frame+11 roof+16"), ("price", "12"),
            ("now", "none"), ("corners", "12 frame+11 roof+16"), ("undo", "ok"), ("done", "frame 11 3"),
            ("undo", "ok"), ("price", "7"), ("undo", "ok"), ("undo", "ok"), ("done", "none"), ("undo", "ok"),
            ("price", "12"), ("undo", "ok"), ("undo", "ok"), ("undo", "ok"), ("undo", "ok"), ("price", "none"),
            ("undo", "error NothingDone"),
        ])

    def test_open_and_left_out(self):
        self.says(Desk(OPEN), [
            ("price", "3"), ("best", "-"), ("corners", "3 -"), ("now", "none"), ("put a * * 2 0", "ok"),
            ("put * 5 6 1 0", "ok"), ("told a", "2"), ("steps a", "* 4 2; 5 6 open; 7 * 2"),
            ("steps b", "* 4 none; 5 6 1; 7 * none"), ("price", "1"), ("corners", "1 b+6; 2 a+6 b+6; 3 a+* b+6"),
            ("now", "none"), ("do a", "ok"), ("price", "3"), ("day 5", "ok"), ("told a", "open"), ("now", "b"),
            ("put b 5 5 0 9", "ok"), ("told b", "open"), ("now", "none"), ("do b", "error NotNow"), ("take 2", "ok"),
            ("do b", "ok"), ("done", "a 0 2; b 5 1"), ("price", "3"), ("best", "a+0 b+5"),
        ])

    def test_now_of_both(self):
        self.says(Desk(OPEN), [("put * * * 0 0", "ok"), ("price", "0"), ("now", "a b"), ("do b", "ok"), ("now", "a")])

    def test_deeds(self):
        self.says(started(), [
            ("add roof+0 <= -", "ok"), ("price", "none"), ("strike 2", "ok"), ("price", "7"), ("strike 1", "ok"),
            ("corners", "7 frame+13 roof+15; 12 frame+20 roof+*; 17 frame+* roof+*"), ("strike 0", "ok"),
            ("corners", "7 frame+20 roof+15; 12 frame+20 roof+*; 12 frame+* roof+15; 17 frame+* roof+*"),
            ("strike 0", "error NoRule"), ("add frame+2 <= roof+0", "ok"), ("strike 1", "error NoRule"),
            ("corners", "7 frame+13 roof+15; 12 frame+20 roof+*; 17 frame+* roof+*"),
        ])
        self.says(started(), [
            ("end 1 10", "ok"), ("steps frame", "* 10 5; 11 * 8"), ("end 2 -999999999", "ok"),
            ("steps frame", "* -1000000000 5; -999999999 9 3; 10 * 8"), ("take 0", "ok"),
            ("steps frame", "* -1000000000 5; -999999999 9 3; 10 * none"), ("end 3 -5", "ok"),
            ("steps roof", "* -6 4; -5 * 9"), ("take 3", "ok"), ("take 3", "error NoRow"), ("steps roof", "* * 9"),
            ("undo", "ok"), ("steps roof", "* -6 4; -5 * 9"), ("end 4 0", "error NoRow"), ("day 999999999", "ok"),
            ("steps frame", "* -1000000000 5; -999999999 9 3; 10 * none"), ("price", "none"),
        ])

    def test_numbers_of_any_size(self):
        desk = Desk(f"things a\nwords\nouts {LARGE_TEXT}\nday -{LARGE_TEXT}\n")
        self.says(desk, [
            ("price", LARGE_TEXT), ("best", "-"), ("corners", LARGE_TEXT + " -"),
            (f"put a -{LARGE_TEXT} {LARGE_TEXT} 7 0", "ok"), ("price", "7"), ("corners", f"7 a+{LARGE_TEXT}"),
            ("now", "a"), ("do a", "ok"), ("done", f"a -{LARGE_TEXT} 7"), ("best", f"a-{LARGE_TEXT}"),
            (f"above a-{LARGE_TEXT}", "7"), (f"above a+{LARGE_TEXT}", "none"), ("day 0", "ok"), ("undo", "ok"),
            ("undo", "ok"), (f"put * * * {LARGE_TEXT} 9", "ok"), (f"above a+{LARGE_TEXT}", "7"),
            ("told a", "open"), ("told b", LARGE_TEXT),
            ("steps a", f"* -{BEHIND} {LARGE_TEXT}; -{LARGE_TEXT} {LARGE_TEXT} open; {BEHIND} * {LARGE_TEXT}"),
        ])


class Refused(DeskCase):
    def test_errors(self):
        for line, error in [
            ("add room+0 <= frame+0", "BadRule"), ("add frame+0 <= room+0", "BadRule"), ("strike 2", "NoRule"),
            ("strike 99", "NoRule"), ("take 5", "NoRow"), ("take 99", "NoRow"), ("end 5 0", "NoRow"),
            ("end 99 -999999999", "NoRow"), ("day 8", "NotNow"), ("day 0", "NotNow"), ("day -1", "NotNow"),
            ("day -999999999", "NotNow"), ("do roof", "NotNow"), ("do room", "BadThing"), ("do a", "BadThing"),
            ("above room+1", "BadPlan"), ("above frame+1 room+1", "BadPlan"),
        ]:
            self.stays(started(), line, "error " + error)
        desk = started()
        desk.say("put * * * 1 0")
        self.stays(desk, "put * * * 1 0", "error TooMany")
        for _ in range(10):
            desk.say("add - <= -")
        self.stays(desk, "add - <= -", "error TooMany")
        self.stays(desk, "add room+0 <= -", "error BadRule")
        self.stays(Desk(START), "do frame", "error NotNow")
        self.stays(Desk(START), "undo", "error NothingDone")
        desk = started()
        desk.say("do frame")
        self.stays(desk, "do frame", "error NotNow")

    def test_lines_that_have_none_of_the_forms(self):
        desk = started()
        for line in [
            "", " ", "  ", "\n", "-", "*", "ok", "none", "Price", "PRICE", "price ", " price", "price\n", "\nprice",
            "price price", "price 1", "prices", "pric", "best -", "best ", "corners 7", "now frame", "done frame",
            "done ", "undo 1", "undo ", "undo undo", "add", "add ", "add -", "add frame+2", "add frame+2 <= ",
            "add  frame+2 <= roof+0", "add frame+2  <= roof+0", "add frame+2 <= roof+0 ", "add frame+2 <= roof+*",
            "add frame+02 <= roof+0", "add roof+0 frame+0 <= -", "add frame+2 < roof+0", "strike", "strike ",
            "strike -1", "strike -0", "strike 00", "strike 01", "strike 100", "strike 1 ", "strike  1", "strike 1 1",
            "strike x", "strike +1", "strike 1.0", "strike *", "take", "take ", "take 100", "take 00", "take 07",
            "take -1", "take a", "take 0 0", "take \u0661", "put", "put ", "put frame", "put frame * * 8",
            "put frame * * 8 10", "put frame * * -8 0", "put  frame * * 8 0", "put frame * * 8 0 ",
            "put frame 2 1 8 0", "put Frame * * 8 0", "put frames7 * * 8 0", "put frame * * 08 0", "end", "end ",
            "end 0", "end 0 ", "end  0 5", "end 0  5", "end 0 5 ", "end 0 05", "end 0 -0", "end 0 +5", "end 0 *",
            "end 0 5 5", "end 100 5", "end 00 5", "end -1 5", "end 0 1000000000", "end 0 -1000000000", "end x 5",
            "end 0 x", "end 5", "day", "day ", "day 08", "day +9", "day -0", "day 1000000000", "day -1000000000",
            "day 9 ", "day  9", "day 9 9", "day *", "day nine", "day 9.0", "day 1_0", "days 9", "do", "do ",
            "do  frame", "do frame ", "do Frame", "do frames7", "do frame roof", "do 7", "do -", "do *", "do abcdefg",
            "told", "told ", "told *", "told frame roof", "told Frame", "told abcdefg", "told  frame", "told frame ",
            "steps", "steps ", "steps *", "steps frame 1", "steps abcdefg", "steps  frame", "above", "above ",
            "above  -", "above - ", "above frame", "above frame+*", "above frame+01", "above roof+1 frame+1",
            "above frame+1  roof+1", "above frame-0", "above none", "above abcdefg+1", "add abcdefg+1 <= -",
            "say price", "pass 9", "pass_to 9", "copy", "log", "price;best", "price; best", "not understood",
            "error NotNow", "frame", "words newest", "least", "rest", "moved", "tried", "\tprice", "price\t",
            "do\tframe", "strike\n1", "day\u00a09", "above frame+1\n", "add - <= -\n",
        ]:
            self.stays(desk, line, "not understood")

    def test_values_that_are_no_texts(self):
        desk = started()
        for value in any_values() + [None, b"price", ["price"], ("price",), {"price": 1}, {"price"}]:
            self.stays(desk, value, "not understood")

    def test_wrong_texts(self):
        self.judged(Desk, [START], [bad_texts(Desk, ())])
        for text, line in [
            ("", 0), ("price", 0), (HEAD[:-1], 3), (START[:-1], 5), (START + "x", 6), (HEAD + "room+1 <= -\n", 4),
            ("things frame\n", 1), (HEAD.replace("newest", "new"), 1),
        ]:
            self.fails(BadText(line), Desk, text)

    def test_no_iterating(self):
        self.not_iterated(Desk(START))
        self.unequal_to_others(Desk(START))


class TwoDesks(DeskCase):
    def test_they_do_not_touch_one_another(self):
        one, other = started(), started()
        ahead = [other.say(question) for question in QUESTIONS]
        self.says(one, [("day 11", "ok"), ("do frame", "ok"), ("strike 0", "ok"), ("take 0", "ok")])
        self.says(one, [("add - <= -", "ok")])
        self.same([other.say(question) for question in QUESTIONS], ahead)
        self.says(other, [("undo", "ok"), ("price", "12"), ("done", "none")])
        self.says(one, [("done", "frame 11 3")])


def asked(house):
    """What a desk is due to answer to questions, by the house used directly."""
    least, best = house.least(), house.best()
    answers = {
        "price": "none" if least is None else str(least),
        "corners": "; ".join(f"{price} {limit_text(limit)}" for price, limit in house.corners()) or "none",
        "now": " ".join(house.now()) or "none",
        "done": "; ".join(f"{name} {day} {price}" for name, (day, price) in house.done.items()) or "none",
        "best": "none" if best is None else plan_text(best),
    }
    for name in [*house.book.things, "zz"]:
        answers["told " + name] = str(told(house.words, house.prices, name, house.today))
        answers["steps " + name] = "; ".join(
            " ".join(["*" if end is None else str(end) for end in days] + [str(answer)])
            for days, answer in steps(house.words, house.prices, name))
    for text in ["-"] + [name + end for name in house.book.things for end in ("+0", "+3", "-2", "+7")]:
        price = price_above(house.plans, house.rest(), read_plan(text))
        answers["above " + text] = "none" if price is None else str(price)
    return answers


class AsTheHouse(DeskCase):
    def test_by_chance(self):
        chance, seen = random.Random(5), set()
        for _ in range(30):
            house = House(*some_house(chance))
            desk = Desk(start_text(house))
            for _ in range(15):
                deed = some_deed(chance, house.book.things)
                call, given = call_of(house, deed)
                write = {"add": rule_text, "put": row_text}.get(deed[0], str)
                fields = [write(part) for part in given]
                try:
                    call(*given)
                    answer = "ok"
                except CornerError as error:
                    answer = "error " + type(error).__name__
                self.says(desk, [(" ".join([deed[0], *fields]), answer)])
                seen.add((deed[0], answer))
                self.says(desk, asked(house).items())
        wanted = {(word, "ok") for word in ("add", "strike", "put", "end", "take", "day", "do", "undo")}
        wanted |= {("do", "error NotNow"), ("do", "error BadThing"), ("take", "error NoRow"), ("day", "error NotNow")}
        wanted |= {("strike", "error NoRule"), ("undo", "error NothingDone")}
        self.assertTrue(wanted <= seen, wanted - seen)

    def test_lines_with_other_signs(self):
        # Whatever a line is, it is answered, and the desk goes on.
        chance, kept = random.Random(6), set()
        lines = [
            "add frame+2 <= roof+0", "strike 0", "put roof 3 15 4 0", "end 2 10", "take 1", "day 9", "do frame", "undo",
            "price", "best", "corners", "now", "told roof", "steps roof", "done", "above frame+14 roof-3",
        ]
        for _ in range(1500):
            desk = started() if chance.random() < 0.05 or not kept else desk
            line = changed(chance, chance.choice(lines))
            answer = desk.say(line)
            self.assertIsInstance(answer, str)
            kept.add(answer.split(" ")[0])
        self.assertTrue({"not", "ok", "error"} <= kept)

    def test_the_house_of_the_document(self):
        house = House(BOOK, NEWEST, MUST, 8)
        for row in ROWS:
            house.put(row)
        self.says(started(), asked(house).items())


if __name__ == "__main__":
    unittest.main()
