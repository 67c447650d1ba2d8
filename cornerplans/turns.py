"""Turns: prices that come round by a period, for plans that are kept round after round at a pace."""

from math import gcd

from cornerplans.days import put_together
from cornerplans.errors import BadCell, BadNumber, BadPlan, BadTurns, NoTurns, OtherThings, TooMany
from cornerplans.fares import is_worth, total_of
from cornerplans.forms import are_things, first_key, is_number, is_pair
from cornerplans.moments import is_plan_of
from cornerplans.offers import Offer, outs_of
from cornerplans.rounds import check_pace, check_rounds, keeps_rounds
from cornerplans.spots import bar_in, book_in, is_bar, is_spot_cell, parts_in, plan_in

MOST_DAYS = 6
MOST_UNROLLED = 11
MOST_RULES = 6
MOST_THINGS = 3


class Turns:
    """The prices of some things on the days of a period, and what it costs to leave each of them out."""

    def __init__(self, period, fares, outs=None):
        if not is_number(period) or not 1 <= period <= MOST_DAYS:
            raise BadTurns("period")
        if not isinstance(fares, dict) or not are_things(list(fares)):
            raise BadTurns("fares")
        if not all([_is_row(row, period) for row in fares.values()]):
            raise BadTurns("fares")
        worths = outs_of(list(fares), outs)
        if worths is None:
            raise BadTurns("outs")
        self._period = period
        self._fares = {name: fares[name] for name in sorted(fares)}
        self._outs = worths

    @property
    def period(self):
        """The number of days after which the prices come round."""
        return self._period

    @property
    def things(self):
        """The things, ascending."""
        return tuple(self._fares)

    @property
    def fares(self):
        """The prices of each thing on the days that leave the remainders 0, 1, .. by the period."""
        return {name: row for name, row in self._fares.items()}

    @property
    def outs(self):
        """What it costs to leave each thing out, None if it must come."""
        return {name: out for name, out in self._outs.items()}

    def __eq__(self, other):
        if not isinstance(other, Turns):
            return False
        return self._period == other._period and self._fares == other._fares and self._outs == other._outs


def unrolled(turns, first, last):
    """The offer that has these prices on the days from first to last alone."""
    _check_turns(turns)
    if not is_number(first) or not is_number(last) or last < first:
        raise BadNumber("this is no first and no last day")
    if last - first + 1 > MOST_UNROLLED:
        raise TooMany(MOST_UNROLLED)
    fares = {}
    for name, row in turns.fares.items():
        days = [((day, day), row[day % turns.period]) for day in range(first, last + 1)]
        fares[name] = put_together([((None, first - 1), None), *days, ((last + 1, None), None)])
    return Offer(turns.things, fares, turns.outs)


def common(turns, pace):
    """The greatest common divisor of the period and a pace."""
    _check_turns(turns)
    if not is_number(pace):
        raise BadNumber("this is no pace")
    return gcd(turns.period, pace)


def turn_price(turns, plan, pace):
    """What the rounds of a turn cost together, None if one of them has no price."""
    _check_turns(turns)
    if not is_plan_of(plan, turns.things):
        raise BadPlan("this is no plan of the things of the turns")
    number = common(turns, pace)
    return _price_in(turns, number, tuple([(name, moment % number) for name, moment in plan]))


def spot_cells(turns, number):
    """All spot cells by a divisor of the period that have a price, ascending."""
    _check_divisor(turns, number)
    return sorted([cell for _, cell in _priced(turns, number)])


def spot_price(turns, number, cell):
    """What a turn of a plan in a spot cell costs, None if there is no price."""
    _check_divisor(turns, number)
    if not is_spot_cell(cell, number, turns.things):
        raise BadCell("this is no spot cell of the turns")
    return _price_in(turns, number, cell)


def spot_book(rounds, number, cell):
    """The round book of how often things in a spot cell are put off by a number."""
    check_rounds(rounds)
    if not is_number(number) or number < 1:
        raise BadNumber("this is no number from 1 on")
    if not is_spot_cell(cell, number, rounds.things) or cell == ():
        raise BadCell("this is no spot cell of the rounds")
    _check_rules(rounds)
    return book_in(rounds, number, cell)


def least_turn(rounds, turns, pace):
    """The least price of a turn of a plan that keeps the round rules at a pace, None if none has a price."""
    _check_asked(rounds, turns, pace)
    best = _best_cell(rounds, turns, pace)
    return None if best is None else best[0]


def plan_for(rounds, turns, pace):
    """A plan that keeps the round rules at a pace and has the least price of a turn, None if there is none."""
    _check_asked(rounds, turns, pace)
    best = _best_cell(rounds, turns, pace)
    return None if best is None else plan_in(rounds, common(turns, pace), best[1], pace)


def all_paces(rounds, turns):
    """For each divisor of the period the triples of the least and the greatest number of a stretch, and the least
    price of a turn of plans in spot cells by this divisor at the paces that are it times such a number."""
    _check_both(rounds, turns)
    return {number: _told_by(rounds, turns, number) for number in _divisors(turns)}


def least_round(rounds, turns):
    """The least price of a round at any pace, as a pair of numbers in lowest terms, None if there is none."""
    _check_both(rounds, turns)
    best = _best_pace(rounds, turns)
    return None if best is None else best[0]


def pace_for(rounds, turns):
    """A pace with the least price of a round, None if there is none."""
    _check_both(rounds, turns)
    best = _best_pace(rounds, turns)
    return None if best is None else best[1]


def is_round_paper(rounds, turns, pace, thing):
    """Whether any value is a plan, or None, and barring choices for all spot cells that are cheaper."""
    _check_asked(rounds, turns, pace)
    if not is_pair(thing) or not isinstance(thing[1], dict):
        return False
    plan, bars = thing
    price = None
    if plan is not None:
        if not is_plan_of(plan, turns.things) or not keeps_rounds(rounds, pace, plan):
            return False
        price = turn_price(turns, plan, pace)
        if price is None:
            return False
    number = common(turns, pace)
    cheaper = _cheaper_cells(turns, number, price)
    if () in cheaper or len(bars) != len(cheaper):
        return False
    if not all([is_spot_cell(cell, number, turns.things) and cell in cheaper for cell in bars]):
        return False
    return all([is_bar(book_in(rounds, number, cell), pace // number, bar) for cell, bar in bars.items()])


def round_paper(rounds, turns, pace):
    """A plan with the least price of a turn, or None, and barring choices for all spot cells that are cheaper."""
    plan = plan_for(rounds, turns, pace)
    price = None if plan is None else turn_price(turns, plan, pace)
    number = common(turns, pace)
    bars = {}
    for cell in sorted(_cheaper_cells(turns, number, price)):
        bars[cell] = bar_in(book_in(rounds, number, cell), pace // number)
    return (plan, bars)


def _coprime_in(least, greatest, many):
    """A number of a stretch that has no divisor but 1 in common with a number, None if there is none."""
    # Among as many numbers in a row as this number tells one leaves the remainder 1 by it.
    first, last = least, greatest
    if first is None:
        first = (0 if last is None else last) - many
    if last is None:
        last = first + many
    for number in range(first, min(last, first + many) + 1):
        if gcd(number, many) == 1:
            return number
    return None


def _is_row(thing, many):
    """Whether any value is a tuple of so many prices."""
    return isinstance(thing, tuple) and len(thing) == many and all([is_worth(price) for price in thing])


def _divisors(turns):
    return [number for number in range(1, turns.period + 1) if turns.period % number == 0]


def _price_in(turns, number, cell):
    """The price of a spot cell, None if there is none."""
    fares, outs, spots = turns.fares, turns.outs, dict(cell)
    parts = []
    for name in turns.things:
        if name in spots:
            parts.append(total_of(fares[name][spots[name]::number]))
        else:
            parts.append(total_of([outs[name] for _ in range(turns.period // number)]))
    return total_of(parts)


def _priced(turns, number):
    """The pairs of the price of a spot cell and the cell, of all that have a price."""
    cells = [()]
    for name in turns.things:
        cells = cells + [(*cell, (name, spot)) for cell in cells for spot in range(number)]
    priced = [(_price_in(turns, number, cell), cell) for cell in cells]
    return [(price, cell) for price, cell in priced if price is not None]


def _cheaper_cells(turns, number, price):
    """The spot cells with a lesser price, all with a price if it is None."""
    return [cell for worth, cell in _priced(turns, number) if price is None or worth < price]


def _best_cell(rounds, turns, pace):
    """The least price of a turn of a plan at a pace, and the spot cell of such a plan; None if there is none."""
    number = common(turns, pace)
    span = (pace // number, pace // number)
    for price, cell in sorted(_priced(turns, number)):
        if parts_in(rounds, number, cell, span) == [(span, True)]:
            return (price, cell)
    return None


def _told_by(rounds, turns, number):
    left, rows = [(None, None)], []
    for price, cell in sorted(_priced(turns, number)):
        parts = [part for span in left for part in parts_in(rounds, number, cell, span)]
        rows = rows + [(span, price) for span, is_free in parts if is_free]
        left = [span for span, is_free in parts if not is_free]
    rows = rows + [(span, None) for span in left]
    told = put_together(sorted(rows, key=lambda row: first_key(row[0][0])))
    return [(least, greatest, price) for (least, greatest), price in told]


def _best_pace(rounds, turns):
    """The least price of a round at any pace, as a pair of numbers, and such a pace; None if there is none."""
    found = []
    for number, rows in all_paces(rounds, turns).items():
        many = turns.period // number
        for least, greatest, price in rows:
            times = _coprime_in(least, greatest, many)
            if price is not None and times is not None:
                # Compared by the price of as many rounds as a period has days, as all turns have a part of these.
                found.append((price * number, many, price, number * times))
    if not found:
        return None
    _, many, price, pace = min(found)
    shared = gcd(price, many)
    return ((price // shared, many // shared), pace)


def _check_turns(turns):
    if not isinstance(turns, Turns):
        raise NoTurns("these are no turns")


def _check_divisor(turns, number):
    _check_turns(turns)
    if not is_number(number) or number not in _divisors(turns):
        raise BadNumber("this is no divisor of the period")


def _check_rules(rounds):
    if len(rounds) > MOST_RULES:
        raise TooMany(MOST_RULES)


def _check_both(rounds, turns):
    check_rounds(rounds)
    _check_turns(turns)
    _check_same(rounds, turns)


def _check_asked(rounds, turns, pace):
    check_rounds(rounds)
    _check_turns(turns)
    check_pace(rounds, pace)
    _check_same(rounds, turns)


def _check_same(rounds, turns):
    if rounds.things != turns.things:
        raise OtherThings("the turns are of other things than the rounds")
    _check_rules(rounds)
    if len(rounds.things) > MOST_THINGS:
        raise TooMany(MOST_THINGS)
