"""Worth: at which prices another plan becomes the best, and what rules, price rows and plans are worth."""

from math import gcd

from cornerplans.asking import check_prices, check_words
from cornerplans.cells import box_above, check_offer, check_offer_alone, latest_in_box, priced_cells
from cornerplans.charts import Chart, first_of
from cornerplans.corners import check_floors, corners, meets, plan_in_box, price_above, undercut
from cornerplans.days import day_in, in_stretch, is_stretch, put_together
from cornerplans.errors import BadBook, BadMarks, BadNumber, BadOffer, NoPlans, NotSo, TooMany
from cornerplans.fares import price_on
from cornerplans.forms import is_list, is_number, is_pair
from cornerplans.likeness import check_two_plans
from cornerplans.moments import common_limit, fits
from cornerplans.offers import Offer, offer_of, price_of
from cornerplans.plans import Plans, plans_of
from cornerplans.rules import Book

MOST_RULES = 6


def raised(offer, marks, number):
    """The offer that costs so much more on each day of the marked stretches."""
    check_offer_alone(offer)
    _check_marks(offer, marks)
    _check_from_0_on(number)
    return _made_dearer(offer, marks, (), number)


def corner_lines(plans, offer, marks):
    """The fewest triples of a price, a number of marks and a limit that tell the prices above by the offer raised
    by any fraction: the least price + many * fraction of those that floors fit."""
    check_offer(plans, offer)
    _check_marks(offer, marks)
    makers = plans.makers
    told = [((price, _marked(cell, marks)), latest_in_box(makers, cell), None) for price, cell in priced_cells(offer)]
    lines = undercut([entry for entry in told if entry[1] is not None])
    limits = [limit for _, limit, _ in lines]
    chart = Chart(limits, limits)
    # A line is needed for floors at its very limit or nowhere: sooner floors fit it, and more others as well.
    return [
        (*line, limit)
        for line, limit, _ in lines
        if _is_lowest(line, _least_by_marks(lines, chart.around(limit)))
    ]


def price_lines(plans, offer, marks, floors):
    """The triples of a fraction, a price and a number of marks: from this fraction on, up to the next one, the price
    above floors by the offer raised by a fraction is price + many * fraction."""
    check_offer(plans, offer)
    _check_marks(offer, marks)
    check_floors(plans, floors)
    least = {}
    for price, cell, _, _ in _cells_above(plans, offer, floors):
        least.setdefault(_marked(cell, marks), price)
    lines = [(price, many) for many, price in least.items()]
    told = []
    for price, many in sorted([line for line in lines if _is_lowest(line, lines)]):
        # Of two lines the dearer one, which has fewer marks, is the lesser one from where they meet on.
        start = _fraction(price - told[-1][1], told[-1][2] - many) if told else (0, 1)
        told.append((start, price, many))
    return told


def least_rules(book, offer):
    """All least lots of rules by which the prices above all floors are what they are by all rules."""
    if not isinstance(book, Book):
        raise BadBook(None)
    if not isinstance(offer, Offer) or offer.things != book.things:
        raise BadOffer(None)
    if len(book) > MOST_RULES:
        raise TooMany(MOST_RULES)
    wanted = corners(plans_of(book), offer)
    # With fewer rules there are more plans, so that a price above can only be less than it was.
    return _least_lots(len(book), lambda lot: _is_none_cheaper(plans_of(book.some(lot)), offer, wanted))


def least_rows(plans, words, prices, outs=None):
    """All least lots of rows by which the prices above all floors are what they are by all rows."""
    if not isinstance(plans, Plans):
        raise NoPlans("these are no plans")
    check_words(words)
    check_prices(prices)
    things = plans.things
    wanted = corners(plans, offer_of(words, prices, things, outs))
    return _least_lots(
        len(prices),
        lambda lot: corners(plans, offer_of(words, prices.some(lot), things, outs)) == wanted,
    )


def differences(one, other, offer):
    """All different numbers by which the price above some floors by one Plans is greater than by another one, each
    with floors that have this difference."""
    check_two_plans(one, other)
    check_offer(one, offer)
    ours, theirs, charts = _charted(one, other, offer)
    late, found = _late(ours + theirs), {}
    for price, limit in ours:
        for worth, end in theirs:
            # Whatever floors have these two prices, the last ones that fit both limits have them, too.
            if price - worth not in found:
                both = common_limit(limit, end)
                least = [pairs[first_of(chart.around(both))][0] for pairs, chart in zip((ours, theirs), charts)]
                if least == [price, worth]:
                    found[price - worth] = _floors_at(both, late)
    return sorted(found.items())


def parting_floors(one, other, offer):
    """Floors above which just one of two Plans has a price, None if there are none."""
    check_two_plans(one, other)
    check_offer(one, offer)
    ours, theirs, charts = _charted(one, other, offer)
    late = _late(ours + theirs)
    for pairs, chart in zip((ours, theirs), charts[::-1]):
        for _, limit in pairs:
            if chart.around(limit) == 0:
                return _floors_at(limit, late)
    return None


def steady(plans, offer, floors, plan):
    """The greatest number such that a plan is one of the best by all offers dearer by up to it, None for any."""
    _check_best(plans, offer, floors, plan)
    return min([most for most, _, _ in _rivals(plans, offer, floors, plan)], default=None)


def unsteady(plans, offer, floors, plan):
    """An offer dearer by up to one more than steady tells, and a plan that is cheaper by it; None if there is none."""
    most = steady(plans, offer, floors, plan)
    if most is None:
        return None
    chosen = _choices(offer, plan)
    others, cheaper = [row[1:] for row in _rivals(plans, offer, floors, plan) if row[0] == most][0]
    unlike = [name for name in offer.things if chosen.get(name) != others.get(name)]
    marks = [(name, chosen[name]) for name in unlike if name in chosen]
    return (_made_dearer(offer, marks, [name for name in unlike if name not in chosen], most + 1), cheaper)


def is_unsteady(plans, offer, floors, plan, number, thing):
    """Whether any value is an offer dearer by up to a number, and a plan that is cheaper by it."""
    _check_best(plans, offer, floors, plan)
    _check_from_0_on(number)
    if not is_pair(thing):
        return False
    dearer, cheaper = thing
    if not _is_dearer(dearer, offer, number) or cheaper not in plans or not meets(cheaper, floors):
        return False
    price = price_of(dearer, cheaper)
    return price is not None and price < price_of(dearer, plan)


def _check_marks(offer, marks):
    if not is_list(marks):
        raise BadMarks(None)
    fares = offer.fares
    for at, mark in enumerate(marks):
        if not _is_mark(fares, mark) or mark in marks[:at]:
            raise BadMarks(at)


def _is_mark(fares, mark):
    if not is_pair(mark) or not isinstance(mark[0], str) or mark[0] not in fares:
        return False
    name, stretch = mark
    return is_stretch(stretch) and any([days == stretch and price is not None for days, price in fares[name]])


def _check_from_0_on(number):
    if not is_number(number) or number < 0:
        raise BadNumber("this is no number from 0 on")


def _check_best(plans, offer, floors, plan):
    check_offer(plans, offer)
    check_floors(plans, floors)
    check_floors(plans, plan)
    best = price_above(plans, offer, floors)
    if best is None or plan not in plans or not meets(plan, floors) or price_of(offer, plan) != best:
        raise NotSo("this plan does not have the price above the floors")


def _made_dearer(offer, marks, left_out, number):
    """The offer with a number more on the marked stretches, and to leave out some things."""
    fares = {
        name: put_together([(days, price + number if (name, days) in marks else price) for days, price in fare])
        for name, fare in offer.fares.items()
    }
    outs = {name: out + number if name in left_out else out for name, out in offer.outs.items()}
    return Offer(offer.things, fares, outs)


def _is_dearer(thing, offer, number):
    """Whether any value is an offer that another one becomes if each of its prices grows by up to a number."""
    if not isinstance(thing, Offer) or thing.things != offer.things:
        return False
    fares, outs = thing.fares, thing.outs
    for name, fare in offer.fares.items():
        grown = [(days, price_on(fares[name], day_in(days))) for days, _ in fare]
        pairs = [(old, new) for (_, old), (_, new) in zip(fare, grown)] + [(offer.outs[name], outs[name])]
        if put_together(grown) != fares[name] or not all([_has_grown(old, new, number) for old, new in pairs]):
            return False
    return True


def _has_grown(old, new, most):
    if old is None or new is None:
        return old is None and new is None
    return 0 <= new - old <= most


def _marked(cell, marks):
    """How many of the stretches of a cell are marked."""
    return len([choice for choice in cell if choice in marks])


def _least_by_marks(lines, bits):
    """The least ones, for each number of marks, of the lines whose bits are set; lines ascend."""
    least = {}
    while bits != 0:
        at = first_of(bits)
        price, many = lines[at][0]
        least.setdefault(many, price)
        bits = bits & (bits - 1)
    return [(price, many) for many, price in least.items()]


def _is_lowest(line, lines):
    """Whether for some t from 0 on price + many * t is less than by all other lines. Each line of as many marks as
    this one must be dearer, or be this very line."""
    price, many = line
    sooner = [(price - other, more - many) for other, more in lines if more > many]
    until = [(other - price, many - more) for other, more in lines if more < many]
    # It is less than the one kind from some t on, than the other kind up to some t, and t is not below 0.
    return all([gain * width < gap * step for gain, step in [*sooner, (0, 1)] for gap, width in until])


def _fraction(over, under):
    shared = gcd(over, under)
    return (over // shared, under // shared)


def _cells_above(plans, offer, floors):
    """Of all cells with a made plan that meets floors, the cheapest first: the price, the cell, the box of these plans
    and the limit of their last moments."""
    makers, found = plans.makers, []
    for price, cell in priced_cells(offer):
        box = box_above(cell, floors)
        limit = None if box is None else latest_in_box(makers, box)
        if limit is not None:
            found.append((price, cell, box, limit))
    return found


def _is_none_cheaper(plans, offer, pairs):
    """Whether the price above no floors is less than corners tell."""
    makers = plans.makers
    for price, cell in priced_cells(offer):
        limit = latest_in_box(makers, cell)
        if limit is not None and not _is_told(price, limit, pairs):
            return False
    return True


def _is_told(price, limit, pairs):
    """Whether a limit is within that of some corner with at most this price; corners ascend."""
    for worth, end in pairs:
        if worth > price:
            return False
        if fits(limit, end):
            return True
    return False


def _least_lots(many, is_enough):
    """The lots of so many indexes that are enough, and within which no other one is, shorter first."""
    lots = [()]
    for at in range(many):
        lots = lots + [(*lot, at) for lot in lots]
    found = []
    for lot in sorted(sorted(lots), key=len):
        if not any([all([at in lot for at in less]) for less in found]) and is_enough(lot):
            found.append(lot)
    return found


def _late(pairs):
    """A moment behind all those of the limits of corners."""
    return max([end for _, limit in pairs for _, end in limit if end is not None], default=-1) + 1


def _floors_at(limit, late):
    return tuple([(name, late if end is None else end) for name, end in limit])


def _charted(one, other, offer):
    """The corners of two Plans, and charts of their limits."""
    ours, theirs = corners(one, offer), corners(other, offer)
    limits = [limit for _, limit in ours + theirs]
    return (ours, theirs, [Chart([limit for _, limit in pairs], limits) for pairs in (ours, theirs)])


def _choices(offer, plan):
    """The stretches in which the things of a plan come."""
    fares = offer.fares
    return {name: [days for days, _ in fares[name] if in_stretch(moment, days)][0] for name, moment in plan}


def _rivals(plans, offer, floors, plan):
    """For each other cell with a made plan that meets floors: by how much each price may grow until such a plan is
    cheaper, the stretches of the cell, and such a plan."""
    chosen, best, makers = _choices(offer, plan), price_of(offer, plan), plans.makers
    rows = []
    for price, cell, box, limit in _cells_above(plans, offer, floors):
        others = dict(cell)
        unlike = len([name for name in offer.things if chosen.get(name) != others.get(name)])
        if unlike > 0:
            rows.append(((price - best) // unlike, others, plan_in_box(makers, box, limit)))
    return rows
