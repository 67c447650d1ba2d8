"""The interface: which names stand in which files, with which parameters, and who imports from whom."""

import ast
import importlib
import inspect
import pathlib
import unittest

FOLDER = pathlib.Path(__file__).resolve().parent.parent / "cornerplans"
# The modules in the order of the document; forms is the one that is no part of the interface.
ORDER = ["forms", "errors", "moments", "rules", "plans", "strict", "days", "prices", "words"]
FUNCTIONS = {
    "moments": [
        "is_plan(thing)", "moment_of(plan, name)", "later(plan, number)", "joined(plans)", "is_limit(thing)",
        "is_within(one, other)",
    ],
    "rules": ["last_of(side, plan)", "is_rule(thing)", "is_kept(rule, plan)"],
    "plans": ["plans_of(book)", "below(plans, plan)", "keeping(plans, rule)"],
    "strict": ["strictest(plans)", "bar(plans, plan)"],
    "days": ["is_stretch(thing)", "in_stretch(day, stretch)"],
    "words": ["alike_words(one, other)", "all_words()"],
}
CLASSES = {
    "rules": {
        "Book(things, rules=())": [
            "keeps(plan)", "with_rule(rule)", "without(at)", "some(lot)", "__len__()", "__getitem__(at)",
            "__eq__(other)",
        ],
    },
    "plans": {
        "Plans(things, made=())": [
            "is_part_of(other)", "__len__()", "__iter__()", "__contains__(plan)", "__eq__(other)",
        ],
    },
    "days": {
        "Box(work=None, days=(None, None))": [
            "is_within(other)", "__contains__(pair)", "__and__(other)", "__eq__(other)",
        ],
    },
    "prices": {
        "Row(box, price, rank=0)": ["ended(day)", "__eq__(other)"],
        "Prices(rows=())": [
            "with_row(row)", "without(at)", "with_ended(at, day)", "some(lot)", "__len__()", "__getitem__(at)",
            "__eq__(other)",
        ],
    },
    "words": {"Words(words=())": ["__eq__(other)"]},
}
PROPERTIES = {
    ("rules", "Book"): ["things", "rules"],
    ("plans", "Plans"): ["things", "makers"],
    ("days", "Box"): ["work", "days"],
    ("prices", "Row"): ["box", "price", "rank"],
    ("prices", "Prices"): ["rows"],
    ("words", "Words"): ["words", "live"],
}


def told(name, parameters):
    """A function with its parameters, as the document writes it."""
    return name + str(inspect.Signature(parameters))


def defined(module):
    """The names that a file defines by def or class."""
    tree = ast.parse((FOLDER / f"{module}.py").read_text())
    return [part.name for part in tree.body if isinstance(part, (ast.FunctionDef, ast.ClassDef))]


class Interface(unittest.TestCase):
    def test_the_package_itself_defines_nothing(self):
        self.assertEqual(ast.parse((FOLDER / "__init__.py").read_text()).body, [])

    def test_functions(self):
        for module, wanted in FUNCTIONS.items():
            names = defined(module)
            for line in wanted:
                name = line.partition("(")[0]
                self.assertIn(name, names)
                function = getattr(importlib.import_module(f"cornerplans.{module}"), name)
                self.assertEqual(told(name, list(inspect.signature(function).parameters.values())), line)

    def test_classes_and_methods(self):
        for module, classes in CLASSES.items():
            names = defined(module)
            for line, methods in classes.items():
                name = line.partition("(")[0]
                self.assertIn(name, names)
                kind = getattr(importlib.import_module(f"cornerplans.{module}"), name)
                self.assertEqual(told(name, list(inspect.signature(kind).parameters.values())), line)
                for method in methods:
                    own = vars(kind)[method.partition("(")[0]]
                    parameters = list(inspect.signature(own).parameters.values())[1:]
                    self.assertEqual(told(own.__name__, parameters), method)

    def test_properties(self):
        for (module, name), wanted in PROPERTIES.items():
            kind = getattr(importlib.import_module(f"cornerplans.{module}"), name)
            for each in wanted:
                self.assertIsInstance(vars(kind)[each], property)

    def test_imports_follow_the_order(self):
        self.assertEqual(sorted(path.stem for path in FOLDER.glob("*.py")), sorted(["__init__", *ORDER]))
        for at, module in enumerate(ORDER):
            tree = ast.parse((FOLDER / f"{module}.py").read_text())
            for part in ast.walk(tree):
                if isinstance(part, ast.ImportFrom) and part.module.startswith("cornerplans"):
                    self.assertIn(part.module.removeprefix("cornerplans."), ORDER[:at])
                    for each in part.names:
                        self.assertIn(each.name, defined(part.module.removeprefix("cornerplans.")))


if __name__ == "__main__":
    unittest.main()
