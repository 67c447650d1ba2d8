"""The whole program: for each function and method of the interface, that equal arguments give equal results, by
position and by name, that what is passed stays and may be changed later, and that what is handed out is new."""

import importlib
import inspect
import unittest

from cornerplans.corners import paper
from cornerplans.days import Box
from cornerplans.desk import Desk
from cornerplans.house import House
from cornerplans.journals import journal_of
from cornerplans.late import Forecast, strategy_for
from cornerplans.offers import offer_of
from cornerplans.plans import Plans, plans_of
from cornerplans.prices import Prices, Row
from cornerplans.rounds import RoundBook
from cornerplans.rules import Book
from cornerplans.turns import Turns, round_paper
from cornerplans.words import Words
from cornerplans.worth import unsteady
from tests.helper import Case
from tests.test_interface import CLASSES, FUNCTIONS, PROPERTIES

WAIT, HASTE = ((("a", 1),), (("b", 0),)), ((("b", 0),), (("a", 4),))
PLAN, FLOORS, LIMIT = (("a", 3), ("b", 5)), (("a", 3),), (("a", 5), ("b", None))
CELL = (("a", (2, 5)), ("b", (None, None)))
ROUND_RULES = [((("a", 1, 0),), (("b", 0, 1),)), ((("b", 0, 0),), (("a", 4, 0),))]
START = "things a b\nwords newest\nouts 2 -\nday 1\na+1 <= b+0\n"
QUESTIONS = ["price", "best", "corners", "now", "done", "told a", "steps b", "above a+3"]
# What changes a house is looked at by itself.
DEEDS = ["add", "strike", "put", "end", "take", "pass_to", "do", "undo", "tried"]


def must():
    return {"b": None, "a": 2}


def fare():
    return [((None, 3), 2), ((4, 6), None), ((7, None), 5)]


def rows():
    return [Row(Box(None, (None, 9)), 3), Row(Box("a", (2, 5)), 1, 2), Row(Box("b"), 4)]


def receipts():
    return [("a", 3, 1), ("b", 20, 4)]


def marks():
    return [("a", (2, 5)), ("b", (None, None))]


def going():
    """A house in which something was done."""
    house = House(Book(["b", "a"], [WAIT]), Words(["newest"]), must(), 1)
    for row in rows():
        house.put(row)
    house.pass_to(2)
    house.do("a")
    house.pass_to(3)
    return house


class World:
    """Values that all calls take, made anew."""

    def __init__(self):
        self.book = Book(["b", "a"], [WAIT, HASTE])
        self.plans = plans_of(self.book)
        self.free = Plans(["b", "a"], [(("b", 0),), (("a", 3),)])
        self.prices = Prices(rows())
        self.less = self.prices.without(1)
        self.words = Words(["newest"])
        self.offer = offer_of(self.words, self.prices, ["b", "a"], must())
        self.cheap = self.offer.with_out("a", 0)
        self.forecast = Forecast([self.offer, self.cheap], [(4, [(0,), (1,)])])
        self.strategy = strategy_for(self.plans, self.forecast, (99, 99), FLOORS)
        self.rounds = RoundBook(["b", "a"], list(ROUND_RULES))
        self.turns = Turns(2, {"b": (3, None), "a": (1, 2)}, must())
        self.best = (("a", 2), ("b", 3))


def of_plans():
    w = World()
    return {
        "moments.is_plan": [PLAN],
        "moments.moment_of": [PLAN, "b"],
        "moments.later": [PLAN, 4],
        "moments.joined": [[PLAN, (), (("a", 7),)]],
        "moments.is_limit": [LIMIT],
        "moments.is_within": [PLAN, LIMIT],
        "rules.last_of": [(("a", 2), ("c", 1)), PLAN],
        "rules.is_rule": [WAIT],
        "rules.is_kept": [WAIT, PLAN],
        "rules.Book": [["b", "a"], [WAIT, HASTE]],
        "rules.Book.keeps": [w.book, PLAN],
        "rules.Book.with_rule": [w.book, WAIT],
        "rules.Book.without": [w.book, 1],
        "rules.Book.some": [w.book, (1,)],
        "plans.Plans": [["b", "a"], [PLAN, (("b", 3),)]],
        "plans.Plans.is_part_of": [w.plans, w.free],
        "plans.plans_of": [w.book],
        "plans.below": [w.plans, PLAN],
        "plans.keeping": [w.free, HASTE],
        "strict.strictest": [w.plans],
        "strict.bar": [w.plans, (("a", 3),)],
        "cells.latest": [w.plans, LIMIT],
        "cells.cells": [w.offer],
        "cells.cell_price": [w.offer, CELL],
        "cells.ends": [w.offer, CELL],
        "cells.latest_in": [w.plans, w.offer, CELL],
        "cells.cell_bar": [Plans(["a", "b"], [(("b", 0),)]), w.offer, CELL],
    }


def of_prices():
    w = World()
    return {
        "days.is_stretch": [(None, 3)],
        "days.in_stretch": [3, (None, 3)],
        "days.Box": ["a", (1, 4)],
        "days.Box.is_within": [Box("a"), Box()],
        "prices.Row": [Box("a", (1, 4)), 3, 2],
        "prices.Row.ended": [Row(Box("a", (1, 4)), 3, 2), 3],
        "prices.Prices": [rows()],
        "prices.Prices.with_row": [w.prices, Row(Box(), 7)],
        "prices.Prices.without": [w.prices, 1],
        "prices.Prices.with_ended": [w.prices, 1, 4],
        "prices.Prices.some": [w.prices, (0, 2)],
        "words.Words": [["newest", "highest"]],
        "words.alike_words": [w.words, Words(["newest", "highest"])],
        "words.all_words": [],
        "asking.rows_at": [w.prices, "a", 3],
        "asking.left_at": [Words(["highest"]), w.prices, "a", 3],
        "asking.told": [w.words, w.prices, "a", 3],
        "asking.steps": [w.words, w.prices, "a"],
        "asking.tell_alike": [w.words, w.prices, w.less],
        "asking.parting_day": [w.words, w.prices, w.less],
        "asking.dead_rows": [w.words, w.prices.with_row(Row(Box(), 7))],
        "asking.never_left": [w.prices],
        "fares.is_fare": [fare()],
        "fares.price_on": [fare(), 7],
        "fares.shifted": [fare(), 4],
        "fares.ahead": [fare()],
        "fares.added": [fare(), [((None, 0), 1), ((1, None), 2)]],
        "fares.least_fare": [Words(), w.prices, "a"],
        "fares.greatest_fare": [Words(), w.prices, "a"],
        "fares.rows_for": [fare()],
        "fares.fewest_rows": [fare()],
        "offers.Offer": [["b", "a"], {"b": fare(), "a": fare()}, must()],
        "offers.Offer.with_fare": [w.offer, "a", fare()],
        "offers.Offer.with_out": [w.offer, "a", None],
        "offers.price_of": [w.offer, PLAN],
        "offers.offer_of": [w.words, w.prices, ["b", "a"], must()],
    }


def of_both():
    w = World()
    two = [w.plans, w.offer]
    return {
        "corners.corners": [*two],
        "corners.price_above": [*two, FLOORS],
        "corners.cheapest": [*two, FLOORS],
        "corners.limit_for": [*two, 6, FLOORS],
        "corners.is_paper": [*two, (("b", 10),), paper(*two, (("b", 10),))],
        "corners.paper": [*two, (("b", 10),)],
        "corners.fewest_rules": [*two, (("b", 10),)],
        "corners.lower_set": [*two, 5],
        "corners.blockers": [*two, 5],
        "lasts.price_within": [*two, FLOORS, LIMIT],
        "lasts.staircase": [*two, ()],
        "lasts.within_price": [*two, (), 5],
        "likeness.plans_alike": [w.plans, w.free],
        "likeness.parting_offer": [w.plans, w.free],
        "likeness.is_parting_offer": [w.plans, w.free, (w.offer, FLOORS)],
        "likeness.price_ahead": [w.offer, PLAN],
        "likeness.offers_alike": [w.offer, w.cheap],
        "likeness.parting_plan": [w.offer, w.cheap],
        "late.Forecast": [[w.offer, w.cheap], [(4, [(0,), (1,)])]],
        "late.parted": [w.forecast, 0, 1],
        "late.is_strategy": [w.plans, w.forecast, w.strategy],
        "late.foot_of": [w.plans, w.forecast, w.strategy],
        "late.prices_of": [w.plans, w.forecast, w.strategy],
        "late.late_corners": [w.plans, w.forecast],
        "late.strategy_for": [w.plans, w.forecast, (99, 99), FLOORS],
        "late.guaranteed": [w.plans, w.forecast, FLOORS],
        "late.weighed": [w.plans, w.forecast, FLOORS, (1, 2)],
        "late.regret": [w.plans, w.forecast, FLOORS],
        "late.worth_of_news": [w.plans, w.forecast, [(2, [(0,), (1,)])], FLOORS],
    }


def of_worth():
    w = World()
    two = [w.plans, w.offer]
    return {
        "worth.raised": [w.offer, marks(), 3],
        "worth.corner_lines": [*two, marks()[:1]],
        "worth.price_lines": [*two, marks()[:1], FLOORS],
        "worth.least_rules": [w.book, w.offer],
        "worth.least_rows": [w.plans, w.words, w.prices, must()],
        "worth.differences": [w.plans, w.free, w.offer],
        "worth.parting_floors": [Plans(["a", "b"], [(("b", 0),)]), w.free, w.offer],
        "worth.steady": [*two, (), w.best],
        "worth.unsteady": [*two, (), w.best],
        "worth.is_unsteady": [*two, (), w.best, 9, unsteady(*two, (), w.best)],
        "back.words_that_fit": [w.prices, receipts()],
        "back.apart": [w.prices, receipts()],
        "back.could_tell": [w.prices, receipts(), "b", 3],
        "back.next_day": [w.prices, receipts()],
        "back.is_next_day": [w.prices, receipts(), ("b", 3)],
        "back.offers_that_fit": [w.prices, receipts(), ["b", "a"], must()],
        "back.sure_prices": [w.plans, w.prices, receipts(), FLOORS],
    }


def of_rounds():
    w = World()
    both, cell = [w.rounds, w.turns], (("a", 0), ("b", 0))
    return {
        "rounds.RoundBook": [["b", "a"], list(ROUND_RULES)],
        "rounds.at_pace": [w.rounds, 3],
        "rounds.keeps_rounds": [w.rounds, 3, PLAN],
        "paces.is_barring": [w.rounds, -9, "a", {"b": 1, "a": 0}],
        "paces.barring": [w.rounds, -9, "a"],
        "paces.paces": [w.rounds, ("a", "b")],
        "turns.Turns": [2, {"b": (3, None), "a": (1, 2)}, must()],
        "turns.unrolled": [w.turns, 1, 5],
        "turns.common": [w.turns, 4],
        "turns.turn_price": [w.turns, (("a", 3), ("b", 4)), 4],
        "turns.spot_cells": [w.turns, 2],
        "turns.spot_price": [w.turns, 2, cell],
        "turns.spot_book": [w.rounds, 2, cell],
        "turns.least_turn": [*both, 2],
        "turns.plan_for": [*both, 2],
        "turns.all_paces": [*both],
        "turns.least_round": [*both],
        "turns.pace_for": [*both],
        "turns.is_round_paper": [*both, -10, round_paper(*both, -10)],
        "turns.round_paper": [*both, -10],
    }


def of_houses():
    w, house = World(), going()
    return {
        "house.House": [w.book, w.words, must(), 1],
        "house.House.rest": [house],
        "house.House.least": [house],
        "house.House.best": [house],
        "house.House.corners": [house],
        "house.House.now": [house],
        "house.House.moved": [house],
        "house.House.copy": [house],
        "journals.journal_of": [house],
        "journals.first_wrong": [house, journal_of(house)],
        "journals.replayed": [house, journal_of(house)],
        "texts.plan_text": [PLAN],
        "texts.limit_text": [LIMIT],
        "texts.rule_text": [WAIT],
        "texts.row_text": [Row(Box("a", (1, 4)), 3, 2)],
        "texts.words_text": [w.words],
        "texts.prices_text": [w.prices],
        "texts.start_text": [house],
        "texts.read_plan": ["a+3 b-5"],
        "texts.read_limit": ["a+3 b+*"],
        "texts.read_rule": ["a+1 <= b+0"],
        "texts.read_row": ["a 1 4 3 2"],
        "texts.read_words": ["newest highest"],
        "texts.read_prices": ["a 1 4 3 2\n* * * 4 0\n"],
        "texts.read_start": [START],
        "desk.Desk": [START],
        "desk.Desk.say": [Desk(START), "steps a"],
    }


def calls():
    """For each function, class and method its arguments, made anew; a method's first one is its object."""
    return {**of_plans(), **of_prices(), **of_both(), **of_worth(), **of_rounds(), **of_houses()}


def called(path):
    """The function, class or method with such a path."""
    module, *names = path.split(".")
    thing = importlib.import_module(f"cornerplans.{module}")
    for name in names:
        thing = vars(thing)[name]
    return thing


def kinds():
    """The classes that have properties, with these."""
    return [(called(f"{module}.{name}"), names) for (module, name), names in PROPERTIES.items()]


def shown(value):
    """A value told at every depth by plain values, so that it can be kept while the value itself is changed."""
    if isinstance(value, (list, tuple)):
        return (type(value).__name__, [shown(part) for part in value])
    if isinstance(value, dict):
        return ("dict", [(shown(key), shown(part)) for key, part in value.items()])
    if isinstance(value, Desk):
        return ("Desk", [value.say(line) for line in QUESTIONS])
    for kind, names in kinds():
        if isinstance(value, kind):
            more = [value.rest(), value.corners(), value.now()] if kind is House else []
            return (kind.__name__, [shown(getattr(value, name)) for name in names], shown(more))
    return (type(value).__name__, value)


def spoiled(value):
    """All lists and dicts of a value, or handed out by it, are emptied and get something else."""
    if isinstance(value, (list, tuple)):
        for part in value:
            spoiled(part)
    if isinstance(value, dict):
        for part in value.values():
            spoiled(part)
        value.clear()
        value["zz"] = None
    if isinstance(value, list):
        value.clear()
        value.append("zz")
    for kind, names in kinds():
        if isinstance(value, kind):
            for name in names:
                spoiled(getattr(value, name))


def dicts_in(value):
    """All dicts in a value, or handed out by it, at every depth."""
    if isinstance(value, (list, tuple)):
        return [each for part in value for each in dicts_in(part)]
    if isinstance(value, dict):
        return [value] + [each for part in value.values() for each in dicts_in(part)]
    for kind, names in kinds():
        if isinstance(value, kind):
            return [each for name in names for each in dicts_in(getattr(value, name))]
    return []


class Whole(Case):
    def test_all_are_called(self):
        wanted = [f"{module}.{line.partition('(')[0]}" for module, lines in FUNCTIONS.items() for line in lines]
        for module, classes in CLASSES.items():
            for line, methods in classes.items():
                name = f"{module}.{line.partition('(')[0]}"
                names = [method.partition("(")[0] for method in methods]
                wanted += [name] + [f"{name}.{each}" for each in names if not each.startswith("__")]
        left_out = [f"house.House.{name}" for name in DEEDS]
        self.assertEqual(sorted(calls()), sorted(name for name in wanted if name not in left_out))

    def test_equal_arguments_give_equal_results(self):
        once, again, by_name = calls(), calls(), calls()
        for path, given in once.items():
            with self.subTest(path):
                call = called(path)
                result, other = call(*given), call(*again[path])
                self.same(shown(result), shown(other))
                self.assertEqual(shown(call(*given)), shown(result))
                names = list(inspect.signature(call).parameters)
                self.assertEqual(len(names), len(given))
                own = 1 if path.count(".") == 2 else 0
                named = dict(zip(names[own:], by_name[path][own:]))
                self.same(shown(call(*by_name[path][:own], **named)), shown(result))
                if not isinstance(result, Desk):
                    self.assertEqual(result, other)

    def test_what_is_passed_stays(self):
        for path, given in calls().items():
            with self.subTest(path):
                ahead = shown(given)
                called(path)(*given)
                self.same(shown(given), ahead)

    def test_what_is_passed_may_be_changed_later(self):
        for path, given in calls().items():
            with self.subTest(path):
                result = called(path)(*given)
                ahead = shown(result)
                spoiled(given)
                self.same(shown(result), ahead)

    def test_what_is_handed_out_is_new(self):
        for path, given in calls().items():
            with self.subTest(path):
                result, ahead = called(path)(*given), shown(given)
                kept = shown(result)
                spoiled(result)
                self.same(shown(called(path)(*given)), kept)
                self.same(shown(given), ahead)

    def test_properties_are_new_each_time(self):
        for path, given in calls().items():
            result = called(path)(*given)
            if isinstance(result, tuple([kind for kind, _ in kinds()])):
                with self.subTest(path):
                    ahead = shown(result)
                    spoiled(result)
                    self.same(shown(result), ahead)

    def test_keys_ascend(self):
        found = 0
        for path, given in calls().items():
            with self.subTest(path):
                for each in dicts_in(called(path)(*given)):
                    self.assertEqual(list(each), sorted(each))
                    found += len(each) > 1
        self.assertGreater(found, 20)

    def test_deeds_of_equal_houses(self):
        for deed, given in [
            ("add", [WAIT]), ("strike", [0]), ("put", [Row(Box("b", (3, 4)), 0)]), ("end", [1, 4]), ("take", [0]),
            ("pass_to", [4]), ("do", ["b"]), ("undo", []),
        ]:
            one, other, untouched = going(), going(), going()
            ahead = shown(given)
            names = list(inspect.signature(getattr(one, deed)).parameters)
            self.assertIsNone(getattr(one, deed)(*given))
            self.assertIsNone(getattr(other, deed)(**dict(zip(names, given))))
            self.same(shown(one), shown(other))
            self.assertEqual(one, other)
            self.assertNotEqual(one, untouched)
            self.same(shown(given), ahead)
            self.same(shown(going()), shown(untouched))


if __name__ == "__main__":
    unittest.main()
