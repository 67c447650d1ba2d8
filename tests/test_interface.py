"""The interface: which names stand in which files, with which parameters, and who imports from whom."""

import ast
import importlib
import inspect
import pathlib
import unittest

FOLDER = pathlib.Path(__file__).resolve().parent.parent / "cornerplans"
# The modules in the order of the document; some that are no part of the interface stand among them.
ORDER = [
    "forms", "errors", "moments", "rules", "plans", "strict", "days", "prices", "words", "asking", "fares", "offers",
    "cells", "covers", "corners", "lasts", "regions", "likeness", "joint", "late", "charts", "worth", "back", "rounds",
    "paces", "spots", "turns", "house", "journals", "figures", "texts", "desk",
]
FUNCTIONS = {
    "moments": [
        "is_plan(thing)", "moment_of(plan, name)", "later(plan, number)", "joined(plans)", "is_limit(thing)",
        "is_within(one, other)",
    ],
    "rules": ["last_of(side, plan)", "is_rule(thing)", "is_kept(rule, plan)"],
    "plans": ["plans_of(book)", "below(plans, plan)", "keeping(plans, rule)"],
    "strict": ["strictest(plans)", "bar(plans, plan)"],
    "days": ["is_stretch(thing)", "in_stretch(day, stretch)"],
    "words": ["alike_words(one, other)", "all_words()"],
    "asking": [
        "rows_at(prices, work, day)", "left_at(words, prices, work, day)", "told(words, prices, work, day)",
        "steps(words, prices, work)", "tell_alike(words, one, other)", "parting_day(words, one, other)",
        "dead_rows(words, prices)", "never_left(prices)",
    ],
    "fares": [
        "is_fare(thing)", "price_on(fare, day)", "shifted(fare, number)", "ahead(fare)", "added(one, other)",
        "least_fare(words, prices, work)", "greatest_fare(words, prices, work)", "rows_for(fare)", "fewest_rows(fare)",
    ],
    "offers": ["price_of(offer, plan)", "offer_of(words, prices, things, outs=None)"],
    "cells": [
        "latest(plans, limit)", "cells(offer)", "cell_price(offer, cell)", "ends(offer, cell)",
        "latest_in(plans, offer, cell)", "cell_bar(plans, offer, cell)",
    ],
    "corners": [
        "corners(plans, offer)", "price_above(plans, offer, floors)", "cheapest(plans, offer, floors)",
        "limit_for(plans, offer, price, floors)", "is_paper(plans, offer, floors, thing)",
        "paper(plans, offer, floors)", "fewest_rules(plans, offer, floors)", "lower_set(plans, offer, number)",
        "blockers(plans, offer, number)",
    ],
    "lasts": [
        "price_within(plans, offer, floors, limit)", "staircase(plans, offer, floors)",
        "within_price(plans, offer, floors, number)",
    ],
    "likeness": [
        "plans_alike(one, other)", "parting_offer(one, other)", "is_parting_offer(one, other, thing)",
        "price_ahead(offer, plan)", "offers_alike(one, other)", "parting_plan(one, other)",
    ],
    "late": [
        "parted(forecast, one, other)", "is_strategy(plans, forecast, thing)", "foot_of(plans, forecast, strategy)",
        "prices_of(plans, forecast, strategy)", "late_corners(plans, forecast)",
        "strategy_for(plans, forecast, prices, floors)", "guaranteed(plans, forecast, floors)",
        "weighed(plans, forecast, floors, weights)", "regret(plans, forecast, floors)",
        "worth_of_news(plans, forecast, news, floors)",
    ],
    "worth": [
        "raised(offer, marks, number)", "corner_lines(plans, offer, marks)", "price_lines(plans, offer, marks, floors)",
        "least_rules(book, offer)", "least_rows(plans, words, prices, outs=None)", "differences(one, other, offer)",
        "parting_floors(one, other, offer)", "steady(plans, offer, floors, plan)",
        "unsteady(plans, offer, floors, plan)", "is_unsteady(plans, offer, floors, plan, number, thing)",
    ],
    "back": [
        "words_that_fit(prices, receipts)", "apart(prices, receipts)", "could_tell(prices, receipts, work, day)",
        "next_day(prices, receipts)", "is_next_day(prices, receipts, thing)",
        "offers_that_fit(prices, receipts, things, outs=None)", "sure_prices(plans, prices, receipts, floors)",
    ],
    "rounds": ["at_pace(rounds, pace)", "keeps_rounds(rounds, pace, plan)"],
    "paces": ["is_barring(rounds, pace, name, thing)", "barring(rounds, pace, name)", "paces(rounds, lot)"],
    "turns": [
        "unrolled(turns, first, last)", "common(turns, pace)", "turn_price(turns, plan, pace)",
        "spot_cells(turns, number)", "spot_price(turns, number, cell)", "spot_book(rounds, number, cell)",
        "least_turn(rounds, turns, pace)", "plan_for(rounds, turns, pace)", "all_paces(rounds, turns)",
        "least_round(rounds, turns)", "pace_for(rounds, turns)", "is_round_paper(rounds, turns, pace, thing)",
        "round_paper(rounds, turns, pace)",
    ],
    "journals": ["journal_of(house)", "first_wrong(house, journal)", "replayed(house, journal)"],
    "texts": [
        "plan_text(plan)", "limit_text(limit)", "rule_text(rule)", "row_text(row)", "words_text(words)",
        "prices_text(prices)", "start_text(house)", "read_plan(text)", "read_limit(text)", "read_rule(text)",
        "read_row(text)", "read_words(text)", "read_prices(text)", "read_start(text)",
    ],
}
CLASSES = {
    "rules": {
        "Book(things, rules=())": [
            "keeps(plan)", "with_rule(rule)", "without(at)", "some(lot)", "__len__()", "__getitem__(at)",
            "__eq__(other)",
        ],
    },
    "plans": {
        "Plans(things, made=())": [
            "is_part_of(other)", "__len__()", "__iter__()", "__contains__(plan)", "__eq__(other)",
        ],
    },
    "days": {
        "Box(work=None, days=(None, None))": [
            "is_within(other)", "__contains__(pair)", "__and__(other)", "__eq__(other)",
        ],
    },
    "prices": {
        "Row(box, price, rank=0)": ["ended(day)", "__eq__(other)"],
        "Prices(rows=())": [
            "with_row(row)", "without(at)", "with_ended(at, day)", "some(lot)", "__len__()", "__getitem__(at)",
            "__eq__(other)",
        ],
    },
    "words": {"Words(words=())": ["__eq__(other)"]},
    "offers": {
        "Offer(things, fares, outs=None)": ["with_fare(name, fare)", "with_out(name, out)", "__eq__(other)"],
    },
    "late": {"Forecast(offers, news=())": ["__eq__(other)"]},
    "rounds": {"RoundBook(things, rules=())": ["__len__()", "__getitem__(at)", "__eq__(other)"]},
    "turns": {"Turns(period, fares, outs=None)": ["__eq__(other)"]},
    "house": {
        "House(book, words, outs=None, day=0)": [
            "add(rule)", "strike(at)", "put(row)", "end(at, day)", "take(at)", "pass_to(day)", "do(name)", "undo()",
            "rest()", "least()", "best()", "corners()", "now()", "moved()", "tried(work)", "copy()",
            "__iadd__(other)", "__enter__()", "__exit__(kind, value, trace)", "__eq__(other)",
        ],
    },
    "desk": {"Desk(text)": ["say(line)"]},
}
PROPERTIES = {
    ("rules", "Book"): ["things", "rules"],
    ("plans", "Plans"): ["things", "makers"],
    ("days", "Box"): ["work", "days"],
    ("prices", "Row"): ["box", "price", "rank"],
    ("prices", "Prices"): ["rows"],
    ("words", "Words"): ["words", "live"],
    ("offers", "Offer"): ["things", "fares", "outs"],
    ("late", "Forecast"): ["offers", "news"],
    ("rounds", "RoundBook"): ["things", "rules"],
    ("turns", "Turns"): ["period", "things", "fares", "outs"],
    ("house", "House"): ["book", "words", "outs", "prices", "today", "done", "paid", "plans", "log"],
}


def told(name, parameters):
    """A function with its parameters, as the document writes it."""
    return name + str(inspect.Signature(parameters))


def defined(module):
    """The names that a file defines by def or class."""
    tree = ast.parse((FOLDER / f"{module}.py").read_text())
    return [part.name for part in tree.body if isinstance(part, (ast.FunctionDef, ast.ClassDef))]


def bound(module):
    """The names that a file defines, also those of plain values at its top."""
    tree = ast.parse((FOLDER / f"{module}.py").read_text())
    return defined(module) + [part.targets[0].id for part in tree.body if isinstance(part, ast.Assign)]


class Interface(unittest.TestCase):
    def test_the_package_itself_defines_nothing(self):
        self.assertEqual(ast.parse((FOLDER / "__init__.py").read_text()).body, [])

    def test_functions(self):
        for module, wanted in FUNCTIONS.items():
            names = defined(module)
            for line in wanted:
                name = line.partition("(")[0]
                self.assertIn(name, names)
                function = getattr(importlib.import_module(f"cornerplans.{module}"), name)
                self.assertEqual(told(name, list(inspect.signature(function).parameters.values())), line)

    def test_classes_and_methods(self):
        for module, classes in CLASSES.items():
            names = defined(module)
            for line, methods in classes.items():
                name = line.partition("(")[0]
                self.assertIn(name, names)
                kind = getattr(importlib.import_module(f"cornerplans.{module}"), name)
                self.assertEqual(told(name, list(inspect.signature(kind).parameters.values())), line)
                for method in methods:
                    own = vars(kind)[method.partition("(")[0]]
                    parameters = list(inspect.signature(own).parameters.values())[1:]
                    self.assertEqual(told(own.__name__, parameters), method)

    def test_properties(self):
        for (module, name), wanted in PROPERTIES.items():
            kind = getattr(importlib.import_module(f"cornerplans.{module}"), name)
            for each in wanted:
                self.assertIsInstance(vars(kind)[each], property)

    def test_imports_follow_the_order(self):
        self.assertEqual(sorted(path.stem for path in FOLDER.glob("*.py")), sorted(["__init__", *ORDER]))
        for at, module in enumerate(ORDER):
            tree = ast.parse((FOLDER / f"{module}.py").read_text())
            for part in ast.walk(tree):
                if isinstance(part, ast.ImportFrom) and part.module.startswith("cornerplans"):
                    self.assertIn(part.module.removeprefix("cornerplans."), ORDER[:at])
                    for each in part.names:
                        self.assertIn(each.name, bound(part.module.removeprefix("cornerplans.")))


if __name__ == "__main__":
    unittest.main()
