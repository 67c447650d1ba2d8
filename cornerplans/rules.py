"""Rules: the last of some things is no later than the last of others; and books of rules."""

from cornerplans.errors import BadBook, BadLot, BadPlan, BadRule, BadRules, BadSide, NoRule, TooMany
from cornerplans.forms import are_things, is_index, is_list, is_lot, is_pair
from cornerplans.moments import is_plan, is_plan_of

MOST_RULES = 12


def last_of(side, plan):
    """The greatest sum of a moment and a wait of a thing that stands in both, None if there is none."""
    # A side has just the form of a plan, with waits in the place of moments.
    if not is_plan(side):
        raise BadSide("this is no side")
    if not is_plan(plan):
        raise BadPlan("this is no plan")
    moments = dict(plan)
    return max([moments[name] + wait for name, wait in side if name in moments], default=None)


def is_rule(thing):
    """Whether any value is a rule."""
    return is_pair(thing) and is_plan(thing[0]) and is_plan(thing[1])


def is_rule_of(thing, things):
    """Whether any value is a rule that has none but these things."""
    return is_pair(thing) and is_plan_of(thing[0], things) and is_plan_of(thing[1], things)


def is_kept(rule, plan):
    """Whether a plan keeps a rule."""
    if not is_rule(rule):
        raise BadRule("this is no rule")
    left, right = rule
    least, last = last_of(left, plan), last_of(right, plan)
    return least is None or (last is not None and last >= least)


class Book:
    """Rules of 1 to 4 things, in the order in which they are told."""

    def __init__(self, things, rules=()):
        if not are_things(things):
            raise BadBook("things")
        if not is_list(rules):
            raise BadRules(None)
        for at, rule in enumerate(rules):
            if not is_rule_of(rule, things):
                raise BadRules(at)
        if len(rules) > MOST_RULES:
            raise TooMany(MOST_RULES)
        self._things = tuple(sorted(things))
        self._rules = tuple(rules)

    @property
    def things(self):
        """The things, ascending."""
        return self._things

    @property
    def rules(self):
        """The rules, in their order."""
        return self._rules

    def __len__(self):
        return len(self._rules)

    def __getitem__(self, at):
        if not is_index(at, len(self._rules)):
            raise NoRule(at)
        return self._rules[at]

    def __iter__(self):
        raise TypeError("a book cannot be iterated over")

    def __eq__(self, other):
        return isinstance(other, Book) and self._things == other._things and self._rules == other._rules

    def keeps(self, plan):
        """Whether a plan of the things keeps all rules."""
        if not is_plan_of(plan, self._things):
            raise BadPlan("this is no plan of the things of the book")
        return all([is_kept(rule, plan) for rule in self._rules])

    def with_rule(self, rule):
        """The book with one more rule behind the others."""
        if not is_rule_of(rule, self._things):
            raise BadRule("this is no rule of the things of the book")
        return Book(self._things, (*self._rules, rule))

    def without(self, at):
        """The book without the rule at an index."""
        if not is_index(at, len(self._rules)):
            raise NoRule(at)
        return Book(self._things, self._rules[:at] + self._rules[at + 1:])

    def some(self, lot):
        """The book with the rules of a lot alone."""
        if not is_lot(lot, len(self._rules)):
            raise BadLot("this is no lot of rules of the book")
        return Book(self._things, [self._rules[at] for at in lot])
