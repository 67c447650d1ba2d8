"""Prices known late: what can be guaranteed as long as it is not known which one of some offers holds."""

from cornerplans.corners import check_floors, price_above
from cornerplans.errors import BadForecast, BadNumber, BadStrategy, NoPlans, TooMany
from cornerplans.forms import is_ascending, is_index, is_list, is_lot, is_number, is_pair
from cornerplans.joint import Joint
from cornerplans.likeness import check_stretches
from cornerplans.moments import fits
from cornerplans.offers import Offer, price_of
from cornerplans.plans import Plans

MOST_OFFERS = 3
MOST_COPIES = 6


class Forecast:
    """Offers one of which holds, and news: on which days it becomes known in which lot the number of this one is."""

    def __init__(self, offers, news=()):
        if not _are_offers(offers):
            raise BadForecast("offers")
        if not _are_news(news, len(offers)):
            raise BadForecast("news")
        self._offers = tuple(offers)
        self._news = tuple([(day, tuple(lots)) for day, lots in news])

    @property
    def offers(self):
        """The offers, in their order."""
        return list(self._offers)

    @property
    def news(self):
        """The pairs of a day and the lots of numbers of offers that are told apart from it on."""
        return self._news

    def __eq__(self, other):
        return isinstance(other, Forecast) and self._offers == other._offers and self._news == other._news


def parted(forecast, one, other):
    """The first day on which two numbers of offers are told apart, None if they never are."""
    if not isinstance(forecast, Forecast):
        raise BadForecast("forecast")
    many = len(forecast.offers)
    if not is_index(one, many) or not is_index(other, many):
        raise BadNumber("this is no number of an offer")
    days = [day for day, lots in forecast.news if not any([one in lot and other in lot for lot in lots])]
    return days[0] if days else None


def is_strategy(plans, forecast, thing):
    """Whether any value is a strategy: a made plan with a price for each offer, alike as long as nothing is known."""
    _check_forecast(plans, forecast)
    offers = forecast.offers
    if not isinstance(thing, tuple) or len(thing) != len(offers) or not all([plan in plans for plan in thing]):
        return False
    if None in [price_of(offer, plan) for offer, plan in zip(offers, thing)]:
        return False
    numbers = range(len(offers))
    return all([
        _is_followed(thing[one], thing[other], parted(forecast, one, other))
        for one in numbers
        for other in numbers
        if one != other
    ])


def foot_of(plans, forecast, strategy):
    """The plan of the things that come in all plans of a strategy, each at its first moment in them."""
    _check_strategy(plans, forecast, strategy)
    rows = [dict(plan) for plan in strategy]
    common = [name for name in plans.things if all([name in row for row in rows])]
    return tuple([(name, min([row[name] for row in rows])) for name in common])


def prices_of(plans, forecast, strategy):
    """The prices of the plans of a strategy."""
    _check_strategy(plans, forecast, strategy)
    return tuple([price_of(offer, plan) for offer, plan in zip(forecast.offers, strategy)])


def late_corners(plans, forecast):
    """The fewest pairs of prices and a limit that tell with which prices strategies are there above which floors."""
    _check_forecast(plans, forecast)
    _check_size(plans, forecast)
    return [(prices, limit) for prices, limit, _ in _joint(plans, forecast).corners()]


def strategy_for(plans, forecast, prices, floors):
    """A strategy that meets floors with no greater prices, None if there is none."""
    _check_forecast(plans, forecast)
    if not _are_numbers(prices, len(forecast.offers)):
        raise BadStrategy("this is no tuple of a number for each offer")
    check_floors(plans, floors)
    _check_size(plans, forecast)
    joint = _joint(plans, forecast)
    for worths, limit, sources in joint.corners():
        if fits(floors, limit) and all([worth <= price for worth, price in zip(worths, prices)]):
            return joint.plans_from(sources, floors)
    return None


def guaranteed(plans, forecast, floors):
    """The least number that is the greatest price of a strategy which meets floors, None if none meets them."""
    return min([max(prices) for prices in _prices_above(plans, forecast, floors)], default=None)


def weighed(plans, forecast, floors, weights):
    """The least sum of weighed prices of a strategy that meets floors, None if none meets them."""
    _check_forecast(plans, forecast)
    check_floors(plans, floors)
    if not _are_numbers(weights, len(forecast.offers)) or min(weights) < 0:
        raise BadNumber("this is no tuple of a weight for each offer")
    found = _prices_above(plans, forecast, floors)
    return min([sum([weight * price for weight, price in zip(weights, prices)]) for prices in found], default=None)


def regret(plans, forecast, floors):
    """The least number that is the greatest difference of a price of a strategy that meets floors and the price above
    them by this offer alone, None if no strategy meets them."""
    found = _prices_above(plans, forecast, floors)
    if not found:
        return None
    above = [price_above(plans, offer, floors) for offer in forecast.offers]
    return min([max([price - least for price, least in zip(prices, above)]) for prices in found])


def worth_of_news(plans, forecast, news, floors):
    """By how much less can be guaranteed with these news than with those of the forecast, None if nothing can."""
    _check_forecast(plans, forecast)
    other = Forecast(forecast.offers, news)
    by_old, by_new = guaranteed(plans, forecast, floors), guaranteed(plans, other, floors)
    return None if by_old is None or by_new is None else by_old - by_new


def _are_offers(thing):
    if not is_list(thing) or not 1 <= len(thing) <= MOST_OFFERS:
        return False
    if not all([isinstance(offer, Offer) for offer in thing]):
        return False
    return all([offer.things == thing[0].things for offer in thing])


def _are_news(thing, many):
    if not is_list(thing) or not all([is_pair(pair) and is_number(pair[0]) for pair in thing]):
        return False
    if not is_ascending([day for day, _ in thing]):
        return False
    ahead = [tuple(range(many))]
    for _, lots in thing:
        if not _are_lots(lots, many) or len(lots) <= len(ahead):
            return False
        if not all([any([_is_part(lot, whole) for whole in ahead]) for lot in lots]):
            return False
        ahead = lots
    return True


def _are_lots(thing, many):
    """Whether any value is an ascending list of lots that have each number of an offer just once."""
    if not is_list(thing) or not all([is_lot(lot, many) for lot in thing]):
        return False
    return sorted([number for lot in thing for number in lot]) == list(range(many)) and list(thing) == sorted(thing)


def _is_part(lot, whole):
    return all([number in whole for number in lot])


def _are_numbers(thing, many):
    return isinstance(thing, tuple) and len(thing) == many and all([is_number(number) for number in thing])


def _is_followed(plan, other, day):
    """Whether what comes in a plan ahead of a day, None for all days, comes in another one at the same moment."""
    moments = dict(other)
    return all([moments.get(name) == moment for name, moment in plan if day is None or moment < day])


def _check_forecast(plans, forecast):
    if not isinstance(plans, Plans):
        raise NoPlans("these are no plans")
    if not isinstance(forecast, Forecast) or forecast.offers[0].things != plans.things:
        raise BadForecast("forecast")


def _check_strategy(plans, forecast, strategy):
    if not is_strategy(plans, forecast, strategy):
        raise BadStrategy("this is no strategy")


def _check_size(plans, forecast):
    if len(plans.things) * len(forecast.offers) > MOST_COPIES:
        raise TooMany(MOST_COPIES)
    check_stretches(forecast.offers)


def _joint(plans, forecast):
    numbers = range(len(forecast.offers))
    partings = {(one, other): parted(forecast, one, other) for one in numbers for other in numbers}
    return Joint(plans, forecast.offers, partings)


def _prices_above(plans, forecast, floors):
    """The prices of late corners within whose limit floors are."""
    _check_forecast(plans, forecast)
    check_floors(plans, floors)
    return [prices for prices, limit in late_corners(plans, forecast) if fits(floors, limit)]
