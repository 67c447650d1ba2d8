"""Rounds: rules for plans that are kept round after round, at a pace."""

from cornerplans.errors import BadBook, BadNumber, BadPlan, BadRules, NoRounds, NoRule, TooMany
from cornerplans.forms import are_things, is_ascending, is_index, is_list, is_number, is_pair
from cornerplans.moments import is_plan_of
from cornerplans.rules import Book, is_kept

MOST_RULES = 24
MOST_LATER = 3


class RoundBook:
    """Round rules of 1 to 4 things, in the order in which they are told."""

    def __init__(self, things, rules=()):
        if not are_things(things):
            raise BadBook("things")
        if not is_list(rules):
            raise BadRules(None)
        for at, rule in enumerate(rules):
            if not _is_round_rule(rule, things):
                raise BadRules(at)
        if len(rules) > MOST_RULES:
            raise TooMany(MOST_RULES)
        self._things = tuple(sorted(things))
        self._rules = tuple(rules)

    @property
    def things(self):
        """The things, ascending."""
        return self._things

    @property
    def rules(self):
        """The round rules, in their order."""
        return self._rules

    def __len__(self):
        return len(self._rules)

    def __getitem__(self, at):
        if not is_index(at, len(self._rules)):
            raise NoRule(at)
        return self._rules[at]

    def __iter__(self):
        raise TypeError("round rules cannot be iterated over")

    def __eq__(self, other):
        return isinstance(other, RoundBook) and self._things == other._things and self._rules == other._rules


def at_pace(rounds, pace):
    """The book of rules that a plan must keep if it is put off by a pace from each round to the next one."""
    check_pace(rounds, pace)
    return Book(rounds.things, [rule_at(rule, pace) for rule in rounds.rules])


def keeps_rounds(rounds, pace, plan):
    """Whether a plan keeps all round rules at a pace."""
    check_pace(rounds, pace)
    if not is_plan_of(plan, rounds.things):
        raise BadPlan("this is no plan of the things of the rounds")
    return all([is_kept(rule_at(rule, pace), plan) for rule in rounds.rules])


def rule_at(rule, pace):
    """The rule that a round rule is at a pace."""
    left, right = rule
    return (_side_at(left, pace), _side_at(right, pace))


def check_rounds(rounds):
    """NoRounds for what is no RoundBook."""
    if not isinstance(rounds, RoundBook):
        raise NoRounds("these are no rounds")


def check_pace(rounds, pace):
    """The errors of rounds and a pace."""
    check_rounds(rounds)
    if not is_number(pace):
        raise BadNumber("this is no pace")


def _side_at(side, pace):
    return tuple([(name, wait + many * pace) for name, wait, many in side])


def _is_round_rule(thing, things):
    return is_pair(thing) and all([_is_round_side(side, things) for side in thing])


def _is_round_side(thing, things):
    if not isinstance(thing, tuple) or not all([_is_round_pair(part, things) for part in thing]):
        return False
    return is_ascending([name for name, _, _ in thing])


def _is_round_pair(thing, things):
    if not isinstance(thing, tuple) or len(thing) != 3:
        return False
    name, wait, many = thing
    return name in things and is_number(wait) and is_number(many) and 0 <= many <= MOST_LATER
