"""Offers: the fares of some things, and what it costs to leave one out."""

from cornerplans.asking import check_prices, check_words
from cornerplans.errors import BadBook, BadFare, BadOffer, BadPlan, BadThing
from cornerplans.fares import is_fare, is_worth, least_fare, price_on, total_of
from cornerplans.forms import are_things
from cornerplans.moments import is_plan_of


class Offer:
    """The fare of each thing, and its out: what it costs to leave it out, None if it must come."""

    def __init__(self, things, fares, outs=None):
        if not are_things(things):
            raise BadBook("things")
        if not _has_just(fares, things) or not all([is_fare(fares[name]) for name in things]):
            raise BadOffer("fares")
        worths = outs_of(things, outs)
        if worths is None:
            raise BadOffer("outs")
        self._things = tuple(sorted(things))
        self._fares = {name: tuple(fares[name]) for name in self._things}
        self._outs = worths

    @property
    def things(self):
        """The things, ascending."""
        return self._things

    @property
    def fares(self):
        """The fare of each thing."""
        return {name: list(fare) for name, fare in self._fares.items()}

    @property
    def outs(self):
        """What it costs to leave each thing out, None if it must come."""
        return {name: out for name, out in self._outs.items()}

    def __eq__(self, other):
        return isinstance(other, Offer) and self._fares == other._fares and self._outs == other._outs

    def with_fare(self, name, fare):
        """The offer with another fare of one thing."""
        if name not in self._things:
            raise BadThing(name)
        if not is_fare(fare):
            raise BadFare("fare")
        return Offer(self._things, {**self._fares, name: fare}, self._outs)

    def with_out(self, name, out):
        """The offer with another out of one thing."""
        if name not in self._things:
            raise BadThing(name)
        return Offer(self._things, self._fares, {**self._outs, name: out})


def price_of(offer, plan):
    """The price of a plan: of its things on their days, and of leaving out all others; None if there is none."""
    if not isinstance(offer, Offer):
        raise BadOffer(None)
    if not is_plan_of(plan, offer.things):
        raise BadPlan("this is no plan of the things of the offer")
    fares, outs, moments = offer.fares, offer.outs, dict(plan)
    return total_of([
        price_on(fares[name], moments[name]) if name in moments else outs[name]
        for name in offer.things
    ])


def offer_of(words, prices, things, outs=None):
    """The offer of the least fares of the things as works."""
    check_words(words)
    check_prices(prices)
    if not are_things(things):
        raise BadBook("things")
    return Offer(things, {name: least_fare(words, prices, name) for name in things}, outs)


def outs_of(things, outs):
    """What it costs to leave each thing out, 0 if outs are None; None if any value as outs does not tell this."""
    worths = {name: 0 for name in things} if outs is None else outs
    if not _has_just(worths, things) or not all([is_worth(worths[name]) for name in things]):
        return None
    return {name: worths[name] for name in sorted(things)}


def _has_just(thing, things):
    """Whether any value is a dict from just these things."""
    return isinstance(thing, dict) and len(thing) == len(things) and all([name in thing for name in things])
