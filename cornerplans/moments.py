"""Plans and limits: which things come, and at which moments."""

from cornerplans.errors import BadLimit, BadNumber, BadPlan, BadPlans, BadThing
from cornerplans.forms import end_key, has_names, is_list, is_name, is_number


def is_plan(thing):
    """Whether any value is a plan."""
    return has_names(thing) and all([is_number(moment) for _, moment in thing])


def is_plan_of(thing, things):
    """Whether any value is a plan that has none but these things."""
    return is_plan(thing) and all([name in things for name, _ in thing])


def moment_of(plan, name):
    """The moment at which a thing comes, None if it is left out."""
    if not is_plan(plan):
        raise BadPlan("this is no plan")
    if not is_name(name):
        raise BadThing(name)
    return dict(plan).get(name)


def later(plan, number):
    """The plan with all moments greater by number."""
    if not is_plan(plan):
        raise BadPlan("this is no plan")
    if not is_number(number):
        raise BadNumber("this is no number")
    return tuple([(name, moment + number) for name, moment in plan])


def joined(plans):
    """The plan of all things of these plans, each at the last of its moments."""
    if not is_list(plans):
        raise BadPlans(None)
    for at, plan in enumerate(plans):
        if not is_plan(plan):
            raise BadPlans(at)
    lasts = {}
    for plan in plans:
        for name, moment in plan:
            lasts[name] = max(moment, lasts.get(name, moment))
    return tuple(sorted(lasts.items()))


def is_limit(thing):
    """Whether any value is a limit."""
    return has_names(thing) and all([end is None or is_number(end) for _, end in thing])


def is_limit_of(thing, things):
    """Whether any value is a limit that has none but these things."""
    return is_limit(thing) and all([name in things for name, _ in thing])


def is_within(one, other):
    """Whether each thing of one limit stands in the other one, no earlier there."""
    if not is_limit(one) or not is_limit(other):
        raise BadLimit("this is no limit")
    return fits(one, other)


def fits(one, other):
    """Whether one limit is within another one, both being known as limits."""
    ends = dict(other)
    return all([name in ends and last_end(end, ends[name]) == ends[name] for name, end in one])


def first_end(one, other):
    """The sooner one of two last moments, None being no end."""
    if one is None or other is None:
        return other if one is None else one
    return min(one, other)


def last_end(one, other):
    """The later one of two last moments, None being no end."""
    return None if one is None or other is None else max(one, other)


def common_limit(one, other):
    """The limit within which just those plans are that are within both of two limits."""
    ends = dict(other)
    return tuple([(name, first_end(end, ends[name])) for name, end in one if name in ends])


def limit_key(limit):
    """What limits are sorted by: None, no end, stands behind all numbers."""
    return [(name, end_key(end)) for name, end in limit]
