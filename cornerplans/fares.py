"""Fares: the prices of one work on all days."""

from cornerplans.asking import check_asked, check_words, left_by_days
from cornerplans.days import Box, day_in, in_stretch, is_stretch, put_together, stretches_at, turns_of
from cornerplans.errors import BadFare, BadNumber
from cornerplans.forms import is_list, is_number, is_pair
from cornerplans.prices import Row


def is_fare(thing):
    """Whether any value is a fare."""
    if not is_list(thing) or len(thing) == 0:
        return False
    if not all([is_pair(pair) and is_stretch(pair[0]) and is_worth(pair[1]) for pair in thing]):
        return False
    if thing[0][0][0] is not None or thing[-1][0][1] is not None:
        return False
    return all([_is_next(thing[at], thing[at + 1]) for at in range(len(thing) - 1)])


def is_worth(thing):
    """Whether any value can stand where a price can: a number from 0 on, or None."""
    return thing is None or (is_number(thing) and thing >= 0)


def price_on(fare, day):
    """The price on a day, None if it cannot be done then."""
    check_fare(fare, "fare")
    if not is_number(day):
        raise BadNumber("this is no day")
    return _price_at(fare, day)


def shifted(fare, number):
    """The fare with all days later by a number."""
    check_fare(fare, "fare")
    if not is_number(number):
        raise BadNumber("this is no number")
    return [((_moved(first, number), _moved(last, number)), price) for (first, last), price in fare]


def ahead(fare):
    """The fare of the least price on each day or any later one."""
    check_fare(fare, "fare")
    least, pairs = None, []
    for days, price in fare[::-1]:
        least = least_worth([least, price])
        pairs.append((days, least))
    return put_together(pairs[::-1])


def added(one, other):
    """The fare of both prices added, None where one of them is."""
    check_fare(one, "one")
    check_fare(other, "other")
    stretches = stretches_at(turns_of([days for days, _ in [*one, *other]]))
    pairs = []
    for days in stretches:
        day = day_in(days)
        pairs.append((days, total_of([_price_at(one, day), _price_at(other, day)])))
    return put_together(pairs)


def least_fare(words, prices, work):
    """The fare of the least price that is left on each day."""
    return put_together([(days, min(left, default=None)) for days, left in _left_prices(words, prices, work)])


def greatest_fare(words, prices, work):
    """The fare of the greatest price that is left on each day."""
    return put_together([(days, max(left, default=None)) for days, left in _left_prices(words, prices, work)])


def rows_for(fare):
    """As few rows for all works as can be that tell the fare if the newest one counts."""
    check_fare(fare, "fare")
    # No row may be on a day without a price, so that the runs of prices between such days stand for themselves.
    rows, run = [], []
    for days, price in [*fare, (None, None)]:
        if price is not None:
            run.append((days, price))
        else:
            rows += [Row(Box(None, painted), worth) for painted, worth in _strokes(run)]
            run = []
    return rows


def fewest_rows(fare):
    """How many rows are needed to tell the fare."""
    return len(rows_for(fare))


def check_fare(fare, part):
    """BadFare with this part for what is no fare."""
    if not is_fare(fare):
        raise BadFare(part)


def least_worth(prices):
    """The least of some prices, None being greater than all others."""
    return min([price for price in prices if price is not None], default=None)


def total_of(prices):
    """The sum of some prices, None if one of them is None."""
    return None if None in prices else sum(prices)


def _is_next(pair, follower):
    (_, last), price = pair
    (first, _), other = follower
    return last is not None and first == last + 1 and other != price


def _price_at(fare, day):
    return [price for days, price in fare if in_stretch(day, days)][0]


def _left_prices(words, prices, work):
    check_words(words)
    check_asked(prices, work)
    rows = prices.rows
    return [(days, [rows[at].price for at in lot]) for days, lot in left_by_days(words, prices, work)]


def _moved(end, number):
    return None if end is None else end + number


def _strokes(run):
    """As few stretches with prices as can be, each painted over those ahead, that leave a run of prices."""
    fewest = {}
    for first in reversed(range(len(run))):
        for last in range(first, len(run)):
            fewest[first, last] = _painted(run, fewest, first, last)
    return fewest.get((0, len(run) - 1), [])


def _painted(run, fewest, first, last):
    # The stroke at the bottom of the first stretch either ends there, or is the one, begun sooner, that is at the
    # bottom of a later stretch of its price; what lies between is then painted over it by itself.
    days, price = run[first]
    ways = [[(days, price), *fewest.get((first + 1, last), [])]]
    for at in range(first + 1, last + 1):
        if run[at][1] == price:
            bottom, *others = fewest[at, last]
            begun = ((days[0], bottom[0][1]), price)
            ways.append([begun, *others, *fewest.get((first + 1, at - 1), [])])
    return min(ways, key=len)
