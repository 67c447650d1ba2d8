"""Strictest rules: the plain rules that tell which plans are made."""

from cornerplans.errors import BadPlan, NoPlans
from cornerplans.moments import is_plan_of, is_within, joined
from cornerplans.plans import Plans
from cornerplans.rules import is_kept


def strictest(plans):
    """All strictest rules of the plans, ascending."""
    if not isinstance(plans, Plans):
        raise NoPlans("these are no plans")
    rules = [(((name, 0),), right) for name in plans.things for right in _rights(plans.makers, name)]
    return sorted(rules)


def bar(plans, plan):
    """The first strictest rule that a plan does not keep, None if the plan is made."""
    rules = strictest(plans)
    if not is_plan_of(plan, plans.things):
        raise BadPlan("this is no plan of the things of the plans")
    broken = [rule for rule in rules if not is_kept(rule, plan)]
    return broken[0] if broken else None


def _rights(makers, name):
    """The least right sides with which all makers keep a plain rule of a thing."""
    # All made plans keep a rule if the makers do, as putting off and joining do not break it. A side is
    # never less than one that was enough for fewer makers, so it is enough to go on from the least ones.
    rights = [()]
    for maker in makers:
        needs = _needs(maker, name)
        if needs is not None:
            rights = _least([more for right in rights for more in _grown(right, needs)])
    return rights


def _needs(maker, name):
    """The pairs each of which is enough for the maker, None if the thing does not come in it."""
    moments = dict(maker)
    if name not in moments:
        return None
    return [(other, moments[name] - moment) for other, moment in maker if other != name]


def _grown(right, needs):
    """The right side if it has one of the needs, otherwise those that it becomes with one of them."""
    if any([is_within((need,), right) for need in needs]):
        return [right]
    return [joined([right, (need,)]) for need in needs]


def _least(sides):
    """The sides within which no other one is."""
    different = sorted(set(sides))
    return [
        side
        for side in different
        if not any([other != side and is_within(other, side) for other in different])
    ]
