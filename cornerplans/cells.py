"""Latest plans, and the cells of offers: within each of them all plans have one price."""

from cornerplans.days import common_days, is_stretch
from cornerplans.errors import BadCell, BadLimit, BadOffer, NoPlans
from cornerplans.fares import total_of
from cornerplans.forms import end_key, first_key, has_names
from cornerplans.moments import is_limit_of
from cornerplans.offers import Offer
from cornerplans.plans import Plans, greatest
from cornerplans.strict import strictest


def latest(plans, limit):
    """The limit of the things that come in some made plan within a limit, each at its last moment in these."""
    if not isinstance(plans, Plans):
        raise NoPlans("these are no plans")
    if not is_limit_of(limit, plans.things):
        raise BadLimit("this is no limit of the things of the plans")
    return greatest(plans.makers, limit)


def cells(offer):
    """All cells of an offer, ascending."""
    check_offer_alone(offer)
    return sorted([cell for _, cell in _priced(offer)], key=_cell_key)


def cell_price(offer, cell):
    """The price of all plans in a cell."""
    _check_cell(offer, cell)
    fares, outs, chosen = offer.fares, offer.outs, dict(cell)
    return total_of([
        dict(fares[name])[chosen[name]] if name in chosen else outs[name]
        for name in offer.things
    ])


def ends(offer, cell):
    """The limit of the things of a cell at their last days."""
    _check_cell(offer, cell)
    return _ends_of(cell)


def latest_in(plans, offer, cell):
    """The limit of the last moments of the made plans in a cell, None if there are none."""
    check_offer(plans, offer)
    _check_cell(offer, cell)
    return latest_in_box(plans.makers, cell)


def cell_bar(plans, offer, cell):
    """The first strictest rule that no plan in a cell keeps, None if some made plan is in it."""
    if latest_in(plans, offer, cell) is not None:
        return None
    return [rule for rule in strictest(plans) if is_barred(cell, rule)][0]


def check_offer(plans, offer):
    """NoPlans for what is no Plans, and BadOffer(None) for what is no Offer of their things."""
    if not isinstance(plans, Plans):
        raise NoPlans("these are no plans")
    if not isinstance(offer, Offer) or offer.things != plans.things:
        raise BadOffer(None)


def check_offer_alone(offer):
    """BadOffer(None) for what is no Offer."""
    if not isinstance(offer, Offer):
        raise BadOffer(None)


def priced_cells(offer):
    """The pairs of the price of a cell and the cell, the cheapest ones first."""
    return sorted(_priced(offer), key=lambda pair: (pair[0], _cell_key(pair[1])))


# A box is like a cell, but its stretches may be any. It is what is left of a cell within floors and limits.

def box_above(box, floors):
    """The box of the plans in a box that meet floors, None if there are none."""
    chosen = dict(box)
    if not all([name in chosen for name, _ in floors]):
        return None
    return _narrowed(box, {name: (floor, None) for name, floor in floors})


def box_within(box, limit):
    """The box of the plans in a box that are within a limit, None if there are none."""
    lasts = dict(limit)
    if not all([name in lasts for name, _ in box]):
        return None
    return _narrowed(box, {name: (None, last) for name, last in limit})


def latest_in_box(makers, box):
    """The limit of the last moments of the plans made of makers in a box, None if there are none."""
    limit = greatest(makers, _ends_of(box))
    if len(limit) < len(box):
        return None
    rests = [(days[0], last) for (_, days), (_, last) in zip(box, limit)]
    return limit if all([is_stretch(rest) for rest in rests]) else None


def last_first_day(box):
    """The last of the first days of a box, 0 if none of its stretches has one."""
    return max([days[0] for _, days in box if days[0] is not None], default=0)


def is_barred(box, rule):
    """Whether no plan in a box, made or not, keeps a rule."""
    chosen = dict(box)
    left, right = [[(name, wait) for name, wait in side if name in chosen] for side in rule]
    # A plan keeps a rule if one thing at the right is late enough for all at the left: at its last day, and all
    # others on their first ones, it is as late as can be, but it is never later than itself.
    reached = [
        (name, wait)
        for name, wait in right
        if all([_can_wait(chosen, other, wait - least, name) for other, least in left])
    ]
    return left != [] and reached == []


def best_box(plans, offer, floors, limit):
    """The triple of the least price of the made plans that meet floors and are within a limit, the box of a cell
    in which one of them has it, and the limit of the last moments there; None if none of them has a price."""
    for price, cell in priced_cells(offer):
        box = box_above(cell, floors)
        if box is not None:
            box = box_within(box, limit)
        if box is not None:
            last = latest_in_box(plans.makers, box)
            if last is not None:
                return (price, box, last)
    return None


def plan_far(makers, limit, day):
    """Of a limit told by greatest: the plan made of makers that has its moments, and a day or later for None."""
    lasts = [last for _, last in limit if last is not None]
    # So late is None put that no maker is stopped by it that is stopped by a moment of the limit, too.
    far = max([day, *lasts]) - min([moment for maker in makers for _, moment in maker], default=0)
    return greatest(makers, tuple([(name, far if last is None else last) for name, last in limit]))


def _can_wait(chosen, name, more, other):
    """Whether a thing can come no later than another one so much put off."""
    if name == other:
        return more >= 0
    first, last = chosen[name][0], chosen[other][1]
    return first is None or last is None or first <= last + more


def _narrowed(box, stretches):
    rows = [(name, common_days(days, stretches.get(name, days))) for name, days in box]
    return None if None in [days for _, days in rows] else tuple(rows)


def _ends_of(box):
    return tuple([(name, last) for name, (_, last) in box])


def _priced(offer):
    """The pairs of the price of a cell and the cell."""
    fares, outs = offer.fares, offer.outs
    rows = [(0, ())]
    for name in offer.things:
        ways = [(price, ((name, days),)) for days, price in fares[name]] + [(outs[name], ())]
        priced = [way for way in ways if way[0] is not None]
        rows = [(total + price, cell + part) for total, cell in rows for price, part in priced]
    return rows


def _cell_key(cell):
    return [(name, first_key(first), end_key(last)) for name, (first, last) in cell]


def _check_cell(offer, cell):
    check_offer_alone(offer)
    if not has_names(cell) or not all([is_stretch(days) for _, days in cell]):
        raise BadCell("this is no cell")
    fares, outs, chosen = offer.fares, offer.outs, dict(cell)
    if not all([name in fares for name in chosen]):
        raise BadCell("this is no cell of the offer")
    if None in [dict(fares[name]).get(days) for name, days in cell]:
        raise BadCell("this is no cell of the offer")
    if None in [out for name, out in outs.items() if name not in chosen]:
        raise BadCell("this is no cell of the offer")
