"""Journals: the deeds of a house with the least prices behind them, judged and gone through again."""

import random
import unittest

from cornerplans.days import Box
from cornerplans.errors import BadHouse, BadJournal, CornerError
from cornerplans.house import House
from cornerplans.journals import first_wrong, journal_of, replayed
from cornerplans.prices import Row
from cornerplans.rules import Book
from cornerplans.words import Words
from tests.helper import Case, any_values, nested, others_than
from tests.test_house import BOOK, MUST, NEWEST, ROWS, call_of, example, shown, some_deed, some_house

NO_HOUSES = others_than(House, BadHouse("."))
RULE = ((("frame", 5),), (("roof", 0),))


def going(day=8):
    """The house of the document behind all kinds of deeds."""
    house = example(day)
    house.pass_to(11)
    house.add(RULE)
    house.do("frame")
    house.end(3, 16)
    house.strike(2)
    house.pass_to(14)
    house.take(0)
    return house


# The journal of this house, told by hand.
JOURNAL = [
    (("put", ROWS[0]), None), (("put", ROWS[1]), None), (("put", ROWS[2]), None), (("put", ROWS[3]), 12),
    (("put", ROWS[4]), 7), (("day", 11), 7), (("add", RULE), 12), (("do", "frame"), 12), (("end", 3, 16), None),
    (("strike", 2), 7), (("day", 14), 7), (("take", 0), 7),
]


class JournalOf(Case):
    def test_by_hand(self):
        house = going()
        ahead = shown(house)
        journal = journal_of(house)
        self.assertEqual(journal, JOURNAL)
        self.assertEqual(journal_of(house=house), JOURNAL)
        self.same([price for _, price in journal], [price for _, price in JOURNAL])
        self.same(shown(house), ahead)
        self.same(journal_of(House(BOOK, NEWEST)), [])

    def test_only_deeds_that_stand(self):
        house = going()
        house.undo()
        house.undo()
        self.assertEqual(journal_of(house), JOURNAL[:-2])
        with house:
            house.pass_to(14)
            house.take(0)
            self.assertEqual(journal_of(house), JOURNAL)
        self.assertEqual(journal_of(house.copy()), JOURNAL)

    def test_handed_out(self):
        house = going()
        journal_of(house).clear()
        self.assertEqual(journal_of(house), JOURNAL)

    def test_wrong(self):
        self.judged(journal_of, [going()], [NO_HOUSES])


class Judged(Case):
    def judge(self, house, journal, at):
        """A journal goes through, or is wrong at an index; the house that is passed stays as it was."""
        ahead, kept = shown(house), list(journal) if isinstance(journal, list) else journal
        self.same(first_wrong(house, journal), at)
        self.same(first_wrong(house=house, journal=journal), at)
        if at is None:
            self.assertEqual(journal_of(replayed(house=house, journal=journal)), journal_of(replayed(house, journal)))
        else:
            self.fails(BadJournal(at), replayed, house, journal)
            self.fails(BadJournal(at), replayed, house=house, journal=journal)
        self.assertTrue(journal is kept or journal == kept)
        self.same(shown(house), ahead)

    def test_right_ones(self):
        for house in (House(BOOK, NEWEST, MUST, 8), going(), example()):
            self.judge(house, JOURNAL, None)
            self.judge(house, tuple(JOURNAL), None)
            self.judge(house, [], None)
            self.judge(house, (), None)
            other = replayed(house, JOURNAL)
            self.assertEqual(other, going())
            self.same(shown(other), shown(going()))
            self.assertIsNot(other, house)
            self.assertEqual(replayed(house, []), House(BOOK, NEWEST, MUST, 8))
            for at in range(len(JOURNAL)):
                self.judge(house, JOURNAL[:at], None)

    def test_another_beginning(self):
        # On day 12 nothing can be passed to 11, and by other words another row counts.
        self.judge(House(BOOK, NEWEST, MUST, 12), JOURNAL, 5)
        self.judge(House(BOOK, Words(["dearest"]), MUST, 8), JOURNAL, 3)
        self.judge(House(BOOK, NEWEST, None, 8), JOURNAL, 0)
        self.judge(House(Book(["frame", "room"]), NEWEST, {"frame": None, "room": 0}, 8), JOURNAL, 0)

    def test_independent(self):
        house = House(BOOK, NEWEST, MUST, 8)
        other = replayed(house, JOURNAL[:5])
        other.pass_to(9)
        self.same((house.today, house.log), (8, []))
        journal = list(JOURNAL[:5])
        other = replayed(house, journal)
        journal.clear()
        self.same(len(other.log), 5)
        with other:
            self.judge(other, JOURNAL, None)

    def test_one_entry_otherwise(self):
        house = House(BOOK, NEWEST, MUST, 8)
        for at, (deed, price) in enumerate(JOURNAL):
            others = [
                None, (), deed, (deed,), [deed, price], (deed, price, None), (price, deed), (list(deed), price),
                (deed[0], price), ((deed[0],), price), (deed[1:], price), ((*deed, None), price), ({}, price),
                (None, price), ((), price), ((None, *deed[1:]), price), ((deed[0].upper(), *deed[1:]), price),
                (deed, str(price)),
                (deed, [price]), (deed, (price,)), (deed, True), (deed, False), (deed, {}), (deed, deed), (deed, 99),
                ((("do", "frame"), "x"), price), (deed, None if price is not None else 0), "deed", 0, True,
                (([deed[0]], *deed[1:]), price), (("undo", None), price), (("redo",), price), (("go", 1), price),
            ]
            if price is not None:
                others += [(deed, price + 1), (deed, price - 1), (deed, -price)]
            for other in others:
                self.judge(house, [*JOURNAL[:at], other, *JOURNAL[at + 1:]], at)

    def test_any_values_as_entries(self):
        house = going()
        for value in any_values() + [[], (), ((), None)]:
            self.judge(house, [*JOURNAL[:3], value, *JOURNAL[3:]], 3)
            self.judge(house, (value,), 0)
            for word in ("add", "strike", "put", "take", "day", "do", "end", "undo"):
                if not isinstance(value, Row):
                    self.judge(house, [*JOURNAL[:3], ((word, value), 12)], 3)
            is_number = isinstance(value, int) and not isinstance(value, bool)
            self.judge(house, [*JOURNAL[:5], (("end", 0, value), 7)], None if is_number else 5)
            self.judge(house, [*JOURNAL[:5], (("end", value, 30), 7)], None if is_number and value in (0, 1) else 5)

    def test_no_list(self):
        house = going()
        for value in any_values():
            if not isinstance(value, (list, tuple)):
                self.judge(house, value, 0)
            elif value not in ([], ()):
                self.judge(house, value, 0)
        for value in (None, {0: JOURNAL[0]}, dict(), "", "undo", nested(12, None, lambda value: [value])):
            self.judge(house, value, 0)

    def test_true_for_1(self):
        house = House(Book(["a"]), Words(), {"a": 1}, 0)
        self.judge(house, [(("day", 1), 1)], None)
        self.judge(house, [(("day", True), 1)], 0)
        self.judge(house, [(("day", 1), True)], 0)
        rows = [(("put", Row(Box(), 0)), 0), (("put", Row(Box(), 2)), 0)]
        self.judge(house, [*rows, (("take", 0), 1)], None)
        self.judge(house, [*rows, (("take", False), 1)], 2)
        self.judge(house, [*rows, (("take", 0), True)], 2)
        self.judge(house, [*rows[:1], (("take", 0), 1)], None)
        self.judge(house, [(("put", Row(Box(), 0)), False)], 0)
        self.judge(house, [*rows, (("end", True, 0), 0)], 2)
        self.judge(house, [*rows, (("end", 1, False), 0)], 2)
        rule = ((("a", 0),), (("a", 0),))
        self.judge(house, [(("add", rule), 1)], None)
        self.judge(house, [(("add", ((("a", False),), (("a", 0),))), 1)], 0)
        self.judge(house, [(("add", rule), 1), (("strike", False), 1)], 1)

    def test_refused_deeds(self):
        house = House(BOOK, NEWEST, MUST, 8)
        for deed in [
            ("day", 8), ("day", 7), ("day", None), ("do", "roof"), ("do", "room"), ("do", None), ("strike", 2),
            ("strike", -1), ("take", 5), ("take", None), ("end", 5, 3), ("end", 0, None), ("add", None), ("put", None),
            ("put", Box()), ("add", ((("room", 0),), ())),
        ]:
            for price in (7, None):
                self.judge(house, [*JOURNAL[:5], (deed, price)], 5)
                self.judge(house, [*JOURNAL[:5], (deed, price), (("day", 9), 7)], 5)
        full = [*JOURNAL[:5], (("put", ROWS[0]), 12)]
        self.judge(house, full, None)
        self.judge(house, [*full, (("put", ROWS[0]), 12)], 6)
        self.judge(house, [*JOURNAL[:8], (("do", "frame"), 12)], 8)

    def test_undo(self):
        house = going()
        self.judge(house, [(("undo",), None)], 0)
        self.judge(house, [(("undo",), 7)], 0)
        undone = [*JOURNAL[:5], (("undo",), 12), (("put", ROWS[4]), 7), (("undo",), 12), (("undo",), None)]
        self.judge(house, undone, None)
        self.assertEqual(journal_of(replayed(house, undone)), JOURNAL[:3])
        self.judge(house, [*undone[:5], (("undo",), 7)], 5)
        self.judge(house, [*undone[:5], (("undo", 1), 12)], 5)
        self.judge(house, [*undone[:5], ("undo", 12)], 5)
        self.judge(house, [*undone[:5], (["undo"], 12)], 5)
        self.judge(house, undone + [(("undo",), None)] * 3, None)
        self.judge(house, undone + [(("undo",), None)] * 4, 12)
        self.assertEqual(replayed(house, undone + [(("undo",), None)] * 3), House(BOOK, NEWEST, MUST, 8))

    def test_wrong(self):
        for call in (first_wrong, replayed):
            self.judged(call, [going(), JOURNAL], [NO_HOUSES, []])
            for value, error in NO_HOUSES:
                self.fails(error, call, value, None)

    def test_by_chance(self):
        # Each house goes on by its journal, with what was taken back told as entries, too.
        chance = random.Random(3)
        for _ in range(25):
            house = House(*some_house(chance))
            begun, entries = house.copy(), []
            for _ in range(20):
                deed = some_deed(chance, house.book.things)
                call, given = call_of(house, deed)
                price = house.least()
                try:
                    call(*given)
                except CornerError:
                    self.same(first_wrong(begun, [*entries, (deed, price)]), len(entries))
                    continue
                entries.append((deed, house.least()))
            self.same(first_wrong(begun, entries), None)
            self.assertEqual(replayed(begun, entries), house)
            self.same(shown(replayed(begun, entries)), shown(house))
            journal = journal_of(house)
            self.assertEqual([deed for deed, _ in journal], house.log)
            self.assertEqual(replayed(begun, journal), house)


if __name__ == "__main__":
    unittest.main()
