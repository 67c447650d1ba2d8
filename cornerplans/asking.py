"""What words tell: which rows of a price list count for a work on a day, and what they tell of it."""

from cornerplans.days import day_in, put_together, stretches_at, turns_of
from cornerplans.errors import BadNumber, BadPrices, BadThing, BadWords
from cornerplans.forms import is_name, is_number
from cornerplans.prices import Prices
from cornerplans.words import LAST_WORDS, Words, all_words

LETTERS = "abcdefghijklmnopqrstuvwxyz"


def rows_at(prices, work, day):
    """The indexes of the rows that apply to a work on a day."""
    check_asked(prices, work)
    if not is_number(day):
        raise BadNumber("this is no day")
    return _applying(prices.rows, work, day)


def left_at(words, prices, work, day):
    """The indexes of the rows that apply and are left in the end."""
    check_words(words)
    lot = rows_at(prices, work, day)
    return _left(words.words, _orders(words.words, prices.rows, lot), lot)


def told(words, prices, work, day):
    """What is told of a work on a day: a price, "none" or "open"."""
    lot = left_at(words, prices, work, day)
    return _told_by(prices.rows, lot)


def steps(words, prices, work):
    """The longest stretches of days on which one thing is told, with what is told."""
    check_words(words)
    check_asked(prices, work)
    return put_together(told_by_days(words, prices, work))


def tell_alike(words, one, other):
    """Whether two price lists tell the same of all works and days."""
    return parting_day(words, one, other) is None


def parting_day(words, one, other):
    """A work and a day of which two price lists tell different things, None if there are none."""
    check_words(words)
    if not isinstance(one, Prices):
        raise BadPrices("one")
    if not isinstance(other, Prices):
        raise BadPrices("other")
    rows = one.rows + other.rows
    for work in works_of(rows):
        for days in _stretches_of(rows):
            day = day_in(days)
            if told(words, one, work, day) != told(words, other, work, day):
                return (work, day)
    return None


def dead_rows(words, prices):
    """The indexes of the rows each of which can be left out by itself, and the same is told."""
    check_words(words)
    check_prices(prices)
    return [at for at in range(len(prices)) if tell_alike(words, prices, prices.without(at))]


def never_left(prices):
    """The indexes of the rows that no Words which always tell one row's price leave for any work and day."""
    check_prices(prices)
    rows = prices.rows
    days = [day_in(stretch) for stretch in _stretches_of(rows)]
    lots = sorted(set([_applying(rows, work, day) for work in works_of(rows) for day in days]))
    found = {}
    for words in all_words():
        if any([word in LAST_WORDS for word in words.words]):
            orders = _orders(words.words, rows, list(range(len(rows))))
            for lot in lots:
                for at in _left(words.words, orders, lot):
                    found[at] = True
    return [at for at in range(len(rows)) if at not in found]


def check_words(words):
    """BadWords for what is no Words."""
    if not isinstance(words, Words):
        raise BadWords("these are no Words")


def check_prices(prices):
    """BadPrices(None) for what is no Prices."""
    if not isinstance(prices, Prices):
        raise BadPrices(None)


def check_asked(prices, work):
    """The errors of price lists and works that are asked for."""
    check_prices(prices)
    if not is_name(work):
        raise BadThing(work)


def left_by_days(words, prices, work):
    """Stretches that together have all days, with the indexes of the rows that are left on each of their days."""
    rows = prices.rows
    orders = _orders(words.words, rows, list(range(len(rows))))
    return [
        (days, _left(words.words, orders, _applying(rows, work, day_in(days))))
        for days in _stretches_of(rows)
    ]


def told_by_days(words, prices, work):
    """Stretches that together have all days, with what is told on each of their days."""
    return [(days, _told_by(prices.rows, lot)) for days, lot in left_by_days(words, prices, work)]


def works_of(rows):
    """The works that rows name, and one that none of them names, which stands for all others."""
    named = sorted(set([row.box.work for row in rows if row.box.work is not None]))
    return named + [letter for letter in LETTERS if letter not in named][:1]


def _applying(rows, work, day):
    return tuple([at for at, row in enumerate(rows) if (work, day) in row.box])


def _stretches_of(rows):
    """The stretches on each of which the same rows apply to a work from the first to the last day."""
    return stretches_at(turns_of([row.box.days for row in rows]))


def _left(words, orders, lot):
    left = lot
    for word in words:
        left = tuple([at for at in left if not any([(word, other, at) in orders for other in left])])
    return left


def _orders(words, rows, lot):
    """The triples of a word and two indexes of a lot of rows the first of which it puts ahead of the second one."""
    return {
        (word, one, other): True
        for word in words
        for one in lot
        for other in lot
        if one != other and _is_ahead(word, rows, one, other)
    }


def _is_ahead(word, rows, one, other):
    row, beside = rows[one], rows[other]
    if word == "narrowest":
        return _is_narrower(row.box, beside.box)
    if word == "widest":
        return _is_narrower(beside.box, row.box)
    if word == "newest":
        return one > other
    if word == "oldest":
        return one < other
    if word == "cheapest":
        return row.price < beside.price
    if word == "dearest":
        return row.price > beside.price
    if word == "highest":
        return row.rank > beside.rank
    return row.rank < beside.rank


def _is_narrower(one, other):
    return one != other and one.is_within(other)


def _told_by(rows, lot):
    told_prices = sorted(set([rows[at].price for at in lot]))
    if not told_prices:
        return "none"
    return told_prices[0] if len(told_prices) == 1 else "open"
