"""Told back: what receipts tell of an order of words that is not known."""

from cornerplans.asking import check_asked, check_prices, told, told_by_days, works_of
from cornerplans.corners import check_floors, price_above
from cornerplans.days import day_in
from cornerplans.errors import BadBook, BadNumber, BadOffer, BadReceipts, NoPlans, TooMany
from cornerplans.forms import are_things, end_key, is_list, is_name, is_number, is_pair
from cornerplans.offers import offer_of, outs_of
from cornerplans.plans import Plans
from cornerplans.words import all_words

MOST_RECEIPTS = 20
NO_PRICES = ("none", "open")


def words_that_fit(prices, receipts):
    """Those of all Words by which just this is told of each receipt."""
    check_prices(prices)
    _check_receipts(receipts)
    return [
        words
        for words in all_words()
        if all([told(words, prices, work, day) == answer for work, day, answer in receipts])
    ]


def apart(prices, receipts):
    """The words that fit, those that tell the same of all works and days in one list."""
    tables, lots = [], []
    for words in words_that_fit(prices, receipts):
        table = [answer for _, answer in _told_at(words, prices)]
        if table in tables:
            lots[tables.index(table)].append(words)
        else:
            tables.append(table)
            lots.append([words])
    return lots


def could_tell(prices, receipts, work, day):
    """What is told of a work on a day by some words that fit, with how many of them tell so."""
    fitting = words_that_fit(prices, receipts)
    check_asked(prices, work)
    if not is_number(day):
        raise BadNumber("this is no day")
    answers = [told(words, prices, work, day) for words in fitting]
    numbers = sorted(set([answer for answer in answers if is_number(answer)]))
    return [(answer, answers.count(answer)) for answer in [*numbers, *NO_PRICES] if answer in answers]


def next_day(prices, receipts):
    """A work and a day of which as few words that fit tell one thing as can be, None if all tell the same of all."""
    fitting = words_that_fit(prices, receipts)
    days = _days_with_most(fitting, prices)
    least = min([most for _, most in days], default=0)
    return None if least == len(fitting) else [pair for pair, most in days if most == least][0]


def is_next_day(prices, receipts, thing):
    """Whether any value is a work and a day of which as few words that fit tell one thing as can be."""
    fitting = words_that_fit(prices, receipts)
    if not is_pair(thing) or not is_name(thing[0]) or not is_number(thing[1]):
        return False
    work, day = thing
    most = _most_alike([told(words, prices, work, day) for words in fitting])
    return most < len(fitting) and most == min([many for _, many in _days_with_most(fitting, prices)])


def offers_that_fit(prices, receipts, things, outs=None):
    """The different offers by the words that fit, in the order of the first words that tell each of them."""
    fitting = words_that_fit(prices, receipts)
    if not are_things(things):
        raise BadBook("things")
    if outs_of(things, outs) is None:
        raise BadOffer("outs")
    offers = []
    for words in fitting:
        offer = offer_of(words, prices, things, outs)
        if offer not in offers:
            offers.append(offer)
    return offers


def sure_prices(plans, prices, receipts, floors):
    """All different prices above floors by the offers that fit, ascending, None behind the numbers."""
    if not isinstance(plans, Plans):
        raise NoPlans("these are no plans")
    offers = offers_that_fit(prices, receipts, plans.things)
    check_floors(plans, floors)
    different = {price_above(plans, offer, floors): True for offer in offers}
    return sorted(different, key=end_key)


def _check_receipts(receipts):
    if not is_list(receipts):
        raise BadReceipts(None)
    for at, receipt in enumerate(receipts):
        if not _is_receipt(receipt):
            raise BadReceipts(at)
    if len(receipts) > MOST_RECEIPTS:
        raise TooMany(MOST_RECEIPTS)


def _is_receipt(thing):
    if not isinstance(thing, tuple) or len(thing) != 3:
        return False
    work, day, answer = thing
    if not is_name(work) or not is_number(day):
        return False
    return answer >= 0 if is_number(answer) else isinstance(answer, str) and answer in NO_PRICES


def _told_at(words, prices):
    """What is told at pairs of a work and a day that stand for all works and days."""
    return [
        ((work, day_in(days)), answer)
        for work in works_of(prices.rows)
        for days, answer in told_by_days(words, prices, work)
    ]


def _days_with_most(fitting, prices):
    """Pairs of a work and a day that stand for all, with the greatest number of words that tell one thing of them."""
    tables = [_told_at(words, prices) for words in fitting]
    return [(row[0][0], _most_alike([answer for _, answer in row])) for row in zip(*tables)]


def _most_alike(answers):
    """How often the most frequent one of some answers stands there."""
    return max([answers.count(answer) for answer in answers], default=0)
