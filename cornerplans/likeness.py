"""Likeness: which plans prices can tell apart, and which offers plans can tell apart."""

from cornerplans.cells import priced_cells
from cornerplans.corners import price_above
from cornerplans.errors import BadOffer, BadPlan, NoPlans, OtherThings, TooMany
from cornerplans.fares import added, ahead, price_on, shifted
from cornerplans.forms import is_pair
from cornerplans.moments import is_plan_of
from cornerplans.offers import Offer
from cornerplans.plans import Plans
from cornerplans.regions import START, closed, cut, plan_of

MOST_THINGS = 3
MOST_STRETCHES = 4


def plans_alike(one, other):
    """Whether two Plans have the same prices above for all offers and floors."""
    check_two_plans(one, other)
    return one == other


def parting_offer(one, other):
    """An offer and floors with unlike prices above by two Plans, None if there are none."""
    check_two_plans(one, other)
    parting = [maker for maker in one if maker not in other] + [maker for maker in other if maker not in one]
    if not parting:
        return None
    # This very plan is the only one that meets itself as floors and has a price.
    plan, never = parting[0], [((None, None), None)]
    fares = {name: never for name in one.things}
    for name, moment in plan:
        fares[name] = [((None, moment), 0), ((moment + 1, None), None)]
    return (Offer(one.things, fares), plan)


def is_parting_offer(one, other, thing):
    """Whether any value is an offer and floors with unlike prices above by two Plans."""
    check_two_plans(one, other)
    if not is_pair(thing):
        return False
    offer, floors = thing
    if not isinstance(offer, Offer) or offer.things != one.things or not is_plan_of(floors, one.things):
        return False
    return price_above(one, offer, floors) != price_above(other, offer, floors)


def price_ahead(offer, plan):
    """The least price of a plan put off by 0 or more, None if none has one; of () its own price."""
    if not isinstance(offer, Offer):
        raise BadOffer(None)
    if not is_plan_of(plan, offer.things):
        raise BadPlan("this is no plan of the things of the offer")
    fares, outs, moments = offer.fares, offer.outs, dict(plan)
    # What is left out has one price on all days, so that it can be added as a fare, too.
    total = [((None, None), 0)]
    for name in offer.things:
        fare = shifted(fares[name], -moments[name]) if name in moments else [((None, None), outs[name])]
        total = added(total, fare)
    return price_on(ahead(total), 0)


def offers_alike(one, other):
    """Whether two offers have the same prices above for all Plans of their things and all floors."""
    return parting_plan(one, other) is None


def parting_plan(one, other):
    """A plan with unlike prices ahead by two offers, None if there is none."""
    if not isinstance(one, Offer):
        raise BadOffer("one")
    if not isinstance(other, Offer):
        raise BadOffer("other")
    if one.things != other.things:
        raise OtherThings("these are offers of other things")
    if len(one.things) > MOST_THINGS:
        raise TooMany(MOST_THINGS)
    check_stretches([one, other])
    if one == other:
        return None
    found = _cheaper_plan(one, other)
    return _cheaper_plan(other, one) if found is None else found


def check_stretches(offers):
    """TooMany if a fare of an offer has more stretches than can be looked at."""
    if any([len(fare) > MOST_STRETCHES for offer in offers for fare in offer.fares.values()]):
        raise TooMany(MOST_STRETCHES)


def check_two_plans(one, other):
    """The errors of two Plans that must be of the same things."""
    if not isinstance(one, Plans) or not isinstance(other, Plans):
        raise NoPlans("these are no plans")
    if one.things != other.things:
        raise OtherThings("these are plans of other things")


def _cheaper_plan(one, other):
    """A plan whose price ahead by one offer is less than by another one, None if there is none."""
    others = [(price, _things_of(cell), _region_of(cell)) for price, cell in priced_cells(other)]
    for price, cell in priced_cells(one):
        things = _things_of(cell)
        parts = [closed(_region_of(cell))]
        for worth, names, region in others:
            if worth <= price and names == things:
                parts = [left for part in parts for left in cut(part, region)]
        if parts:
            return plan_of(parts[0], things)
    return None


def _things_of(cell):
    return [name for name, _ in cell]


def _region_of(cell):
    """The region of the plans that are in a cell, or will be if they are put off."""
    # They can be put off to be in it if no thing has missed its last day, and if none misses it as another one
    # is brought to its first day.
    region = {(name, START): last for name, (_, last) in cell if last is not None}
    for name, (_, last) in cell:
        for other, (first, _) in cell:
            if name != other and first is not None and last is not None:
                region[name, other] = last - first
    return region
