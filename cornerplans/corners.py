"""Corners: the least prices above all floors at once, and papers that show them."""

from cornerplans.cells import (
    best_box, box_above, check_offer, is_barred, last_first_day, latest_in_box, plan_far, priced_cells,
)
from cornerplans.covers import fewest_for
from cornerplans.errors import BadNumber, BadPlan
from cornerplans.forms import first_key, is_list, is_number, is_pair
from cornerplans.moments import fits, is_plan_of, limit_key
from cornerplans.offers import price_of
from cornerplans.rules import is_kept, is_rule_of
from cornerplans.strict import strictest


def corners(plans, offer):
    """The fewest pairs of a price and a limit such that the price above floors is the least of those they fit."""
    check_offer(plans, offer)
    makers = plans.makers
    told = [((price,), latest_in_box(makers, cell), None) for price, cell in priced_cells(offer)]
    best = undercut([entry for entry in told if entry[1] is not None])
    return [(price, limit) for (price,), limit, _ in best]


def price_above(plans, offer, floors):
    """The least price of a made plan that meets floors, None if none has a price."""
    best = _best_above(plans, offer, floors)
    return None if best is None else best[0]


def cheapest(plans, offer, floors):
    """A made plan that meets floors and has the price above them, None if there is none."""
    best = _best_above(plans, offer, floors)
    return None if best is None else plan_in_box(plans.makers, best[1], best[2])


def limit_for(plans, offer, price, floors):
    """The limit of the first corner with at most a price within which floors are, None if there is none."""
    check_offer(plans, offer)
    if not is_number(price):
        raise BadNumber("this is no number")
    check_floors(plans, floors)
    limits = [limit for worth, limit in corners(plans, offer) if worth <= price and fits(floors, limit)]
    return limits[0] if limits else None


def is_paper(plans, offer, floors, thing):
    """Whether any value is a plan, or None, and rules that bar all that is cheaper."""
    check_offer(plans, offer)
    check_floors(plans, floors)
    if not is_pair(thing):
        return False
    plan, rules = thing
    if not is_list(rules) or not all([_holds(plans, rule) for rule in rules]):
        return False
    price = None
    if plan is not None:
        if plan not in plans or not meets(plan, floors):
            return False
        price = price_of(offer, plan)
        if price is None:
            return False
    return all([any([is_barred(box, rule) for rule in rules]) for box in _boxes_below(offer, floors, price)])


def paper(plans, offer, floors):
    """A made plan that has the price above floors, or None, and rules that bar all that is cheaper."""
    plan = cheapest(plans, offer, floors)
    price = None if plan is None else price_of(offer, plan)
    rules = strictest(plans)
    lots = _barring_lots(rules, _boxes_below(offer, floors, price))
    return (plan, [rules[at] for at in sorted(set([lot[0] for lot in lots]))])


def fewest_rules(plans, offer, floors):
    """The least number of strictest rules in a paper."""
    price = price_above(plans, offer, floors)
    return fewest_for(_barring_lots(strictest(plans), _boxes_below(offer, floors, price)))


def lower_set(plans, offer, number):
    """The limits, none within another one, such that floors with a price above of at most number are in one."""
    check_offer(plans, offer)
    if not is_number(number):
        raise BadNumber("this is no number")
    limits = [limit for price, limit in corners(plans, offer) if price <= number]
    widest = [limit for limit in limits if not any([limit != other and fits(limit, other) for other in limits])]
    return sorted(widest, key=limit_key)


def blockers(plans, offer, number):
    """The fewest starts such that floors behind one of them, and no others, have a greater price above, or none."""
    starts = [()]
    for limit in lower_set(plans, offer, number):
        ways = _ways_out(plans.things, limit)
        shut = [start for start in starts if any([_is_behind(start, (way,)) for way in ways])]
        raised = [_raised(start, way) for start in starts if start not in shut for way in ways]
        starts = shut + _needed(raised, shut)
    return sorted(starts, key=_start_key)


def undercut(entries):
    """The triples of prices, a limit and anything that are left if each goes whose limit is within that of another
    one with prices none of which is greater; of equal ones one is left. Ascending."""
    found = []
    for prices, limit, more in sorted(entries, key=lambda entry: (entry[0], limit_key(entry[1]))):
        if not any([_is_as_good(other, prices) and fits(limit, end) for other, end, _ in found]):
            # No one ahead has greater prices, so that only one of the same prices can go for this one.
            found = [entry for entry in found if entry[0] != prices or not fits(entry[1], limit)]
            found.append((prices, limit, more))
    return found


def check_floors(plans, floors):
    """BadPlan for what is no plan of the things of the plans."""
    if not is_plan_of(floors, plans.things):
        raise BadPlan("this is no plan of the things of the plans")


def meets(plan, floors):
    """Whether each thing of floors comes in a plan, no earlier than told."""
    return fits(floors, plan)


def plan_in_box(makers, box, limit):
    """A plan made of makers in a box whose last moments are told by a limit."""
    return plan_far(makers, limit, last_first_day(box))


def _is_as_good(prices, others):
    return all([price <= other for price, other in zip(prices, others)])


def _best_above(plans, offer, floors):
    check_offer(plans, offer)
    check_floors(plans, floors)
    return best_box(plans, offer, floors, tuple([(name, None) for name in plans.things]))


def _holds(plans, rule):
    """Whether any value is a rule of the things that all made plans keep: putting off and joining do not break it."""
    return is_rule_of(rule, plans.things) and all([is_kept(rule, maker) for maker in plans.makers])


def _boxes_below(offer, floors, price):
    """The boxes above floors of the cells with a lesser price, of all cells if the price is None."""
    cheaper = [cell for worth, cell in priced_cells(offer) if price is None or worth < price]
    boxes = [box_above(cell, floors) for cell in cheaper]
    return [box for box in boxes if box is not None]


def _barring_lots(rules, boxes):
    """For each box the indexes of the rules that bar it."""
    return [tuple([at for at, rule in enumerate(rules) if is_barred(box, rule)]) for box in boxes]


def _ways_out(things, limit):
    """The pairs of a thing and the first moment, None for any, with which floors are not within a limit."""
    lasts = dict(limit)
    late = [(name, last + 1) for name, last in limit if last is not None]
    return late + [(name, None) for name in things if name not in lasts]


def _is_behind(start, other):
    """Whether all floors that are behind a start are behind another one."""
    chosen = dict(start)
    return all([name in chosen and first_key(chosen[name]) >= first_key(first) for name, first in other])


def _raised(start, way):
    """The start of the floors that are behind it and in which a thing is late, too."""
    chosen = dict(start)
    name, first = way
    chosen[name] = first
    return tuple(sorted(chosen.items()))


def _needed(starts, others):
    """The different starts that are behind none of the others, nor behind another one of them."""
    different = list({start: True for start in starts})
    return [
        start
        for start in different
        if not any([start != other and _is_behind(start, other) for other in [*others, *different]])
    ]


def _start_key(start):
    return [(name, first_key(first)) for name, first in start]
