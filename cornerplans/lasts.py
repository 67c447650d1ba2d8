"""Last days: how the least price falls as the last day grows."""

from cornerplans.cells import best_box, box_above, check_offer, priced_cells
from cornerplans.corners import check_floors
from cornerplans.errors import BadLimit, BadNumber
from cornerplans.forms import first_key, is_number
from cornerplans.moments import is_limit_of


def price_within(plans, offer, floors, limit):
    """The least price of a made plan that meets floors and is within a limit, None if none has a price."""
    check_offer(plans, offer)
    check_floors(plans, floors)
    if not is_limit_of(limit, plans.things):
        raise BadLimit("this is no limit of the things of the plans")
    best = best_box(plans, offer, floors, limit)
    return None if best is None else best[0]


def staircase(plans, offer, floors):
    """The pairs of a last day and the least price that is had from it on, None standing for each last day."""
    check_offer(plans, offer)
    check_floors(plans, floors)
    makers, found = plans.makers, []
    for price, cell in priced_cells(offer):
        box = box_above(cell, floors)
        if box is not None:
            found += [(day, price) for day in _first_last_days(makers, box)]
    stairs = []
    for day, price in sorted(found, key=lambda pair: (first_key(pair[0]), pair[1])):
        if not stairs or price < stairs[-1][1]:
            stairs.append((day, price))
    return stairs


def within_price(plans, offer, floors, number):
    """The first day of the staircase with a price of at most number, alone in a tuple; () if there is none."""
    stairs = staircase(plans, offer, floors)
    if not is_number(number):
        raise BadNumber("this is no number")
    return tuple([day for day, price in stairs if price <= number][:1])


def _first_last_days(makers, box):
    """The first day behind which no moment of some plan made of makers in a box is, None if it can be any day;
    alone in a list, which is empty if there is no such plan."""
    # Each thing is brought into its stretch by a maker, put off no more than it must be. As the last moment of a
    # maker is 0, it is then done on the day by which it is put off; and () is done on any day.
    days = [None]
    for name, (first, _) in box:
        fitting = [moves for moves in [_moves(maker, box, name) for maker in makers] if moves]
        if not fitting:
            return []
        days.append(min([moves[0] for moves in fitting], key=first_key))
    return [max(days, key=first_key)]


def _moves(maker, box, name):
    """By how much a maker must be put off so that a thing is in its stretch and no other thing too late;
    None for any number, so early as one likes; alone in a list, which is empty if it cannot be."""
    moments, chosen = dict(maker), dict(box)
    if name not in moments or not all([other in chosen for other in moments]):
        return []
    first = chosen[name][0]
    if first is None:
        return [None]
    lasts = [(moment + first - moments[name], chosen[other][1]) for other, moment in maker]
    return [first - moments[name]] if all([last is None or moment <= last for moment, last in lasts]) else []
