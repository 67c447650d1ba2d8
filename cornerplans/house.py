"""A house that goes on: rules and prices change from day to day, works are done and paid, deeds are taken back."""

from cornerplans.asking import check_words, told
from cornerplans.corners import cheapest, corners, price_above
from cornerplans.days import common_days, put_together
from cornerplans.errors import BadBook, BadNumber, BadOffer, BadThing, NotNow, NothingDone
from cornerplans.fares import least_fare
from cornerplans.forms import is_number
from cornerplans.offers import Offer, outs_of
from cornerplans.plans import plans_of
from cornerplans.prices import Prices
from cornerplans.rules import Book


class Standing:
    """How a house stands behind its deeds. It is never changed: each deed leads to a new one, from which the one
    ahead of the deed is still known."""

    def __init__(self, rulebook, made, pricelist, day, bought, deeds, earlier):
        self.rulebook = rulebook
        self.made = made
        self.pricelist = pricelist
        self.day = day
        self.bought = bought
        self.deeds = deeds
        self.earlier = earlier


class Block:
    """How a house stood at the beginning of a block, and the block around this one."""

    def __init__(self, standing, outer):
        self.standing = standing
        self.outer = outer


class House:
    """A book of rules, a price list and a day, and what was done and paid."""

    def __init__(self, book, words, outs=None, day=0):
        if not isinstance(book, Book):
            raise BadBook(None)
        check_words(words)
        worths = outs_of(book.things, outs)
        if worths is None:
            raise BadOffer("outs")
        if not is_number(day):
            raise BadNumber("this is no day")
        self._words = words
        self._outs = worths
        self._first_book = book
        self._first_day = day
        self._stands = Standing(book, plans_of(book), Prices(), day, {}, (), None)
        self._block = None

    @property
    def book(self):
        """The book of rules."""
        return self._stands.rulebook

    @property
    def words(self):
        """The words that tell which row of the price list counts."""
        return self._words

    @property
    def outs(self):
        """What it costs to leave each thing out, None if it must come."""
        return {name: out for name, out in self._outs.items()}

    @property
    def prices(self):
        """The price list."""
        return self._stands.pricelist

    @property
    def today(self):
        """The day on which the house is."""
        return self._stands.day

    @property
    def done(self):
        """The day and the price of each thing that is done."""
        return {name: self._stands.bought[name] for name in sorted(self._stands.bought)}

    @property
    def paid(self):
        """The sum of the prices of all things that are done."""
        return sum([price for _, price in self._stands.bought.values()])

    @property
    def plans(self):
        """The plans that keep the rules of the book."""
        return self._stands.made

    @property
    def log(self):
        """The deeds that stand."""
        return list(self._stands.deeds)

    def __eq__(self, other):
        if not isinstance(other, House):
            return False
        if self._first_book != other._first_book or self._words != other._words or self._outs != other._outs:
            return False
        return self._first_day == other._first_day and self._stands.deeds == other._stands.deeds

    def __enter__(self):
        self._block = Block(self._stands, self._block)
        return self

    def __exit__(self, kind, value, trace):
        if kind is not None:
            self._stands = self._block.standing
        self._block = self._block.outer

    def __iadd__(self, other):
        self.put(other)
        return self

    def add(self, rule):
        """Put one more rule into the book."""
        self._stands = self._behind(("add", rule), book=self.book.with_rule(rule))

    def strike(self, at):
        """Take a rule out of the book."""
        self._stands = self._behind(("strike", at), book=self.book.without(at))

    def put(self, row):
        """Enter one more row into the price list."""
        self._stands = self._behind(("put", row), prices=self.prices.with_row(row))

    def end(self, at, day):
        """Take its days from this one on from a row of the price list."""
        self._stands = self._behind(("end", at, day), prices=self.prices.with_ended(at, day))

    def take(self, at):
        """Take a row out of the price list."""
        self._stands = self._behind(("take", at), prices=self.prices.without(at))

    def pass_to(self, day):
        """Go on to a later day."""
        if not is_number(day):
            raise BadNumber("this is no day")
        if day <= self.today:
            raise NotNow("day")
        self._stands = self._behind(("day", day), day=day)

    def do(self, name):
        """Do a thing today, and pay its price."""
        self._stands = self._behind_doing(name)

    def undo(self):
        """Take back the last deed."""
        self._stands = self._ahead()

    def rest(self):
        """The offer that tells what is left."""
        return self._rest_of(self._stands)

    def least(self):
        """The least price of a plan that is left, None if no plan is."""
        return self._least_of(self._stands)

    def best(self):
        """A plan of the least price that is left, None if no plan is."""
        return cheapest(self.plans, self.rest(), ())

    def corners(self):
        """The corners of what is left."""
        return corners(self.plans, self.rest())

    def now(self):
        """The things that could be done today so that the least price stays as it is."""
        price = self.least()
        if price is None:
            return ()
        return tuple([name for name in self.book.things if self._least_if_done(name) == price])

    def moved(self):
        """The least price ahead of the last deed, and the one now."""
        return (self._least_of(self._ahead()), self.least())

    def tried(self, work):
        """What a work that is called with this house returns; if it raises an error, the house is as it was."""
        with self:
            return work(self)

    def begun(self):
        """A house that begins as this one did, without deeds."""
        return House(self._first_book, self._words, self._outs, self._first_day)

    def copy(self):
        """An independent house that stands as this one does, in no block."""
        other = self.begun()
        other._stands = self._stands
        return other

    def _behind(self, deed, book=None, prices=None, day=None, bought=None):
        """How the house stands behind a deed that changes what is told."""
        stands = self._stands
        return Standing(
            stands.rulebook if book is None else book,
            stands.made if book is None else plans_of(book),
            stands.pricelist if prices is None else prices,
            stands.day if day is None else day,
            stands.bought if bought is None else bought,
            (*stands.deeds, deed),
            stands,
        )

    def _behind_doing(self, name):
        """How the house stands if a thing is done today."""
        if name not in self.book.things:
            raise BadThing(name)
        if name in self._stands.bought:
            raise NotNow("done")
        price = told(self._words, self.prices, name, self.today)
        if not is_number(price):
            raise NotNow("price")
        behind = self._behind(("do", name), bought={**self._stands.bought, name: (self.today, price)})
        if self._least_of(behind) is None:
            raise NotNow("plan")
        return behind

    def _ahead(self):
        """How the house stood ahead of the last deed."""
        if self._stands.earlier is None:
            raise NothingDone("there is no deed that stands")
        return self._stands.earlier

    def _least_if_done(self, name):
        """The least price if a thing is done today, None if it cannot be done."""
        try:
            behind = self._behind_doing(name)
        except NotNow:
            return None
        return self._least_of(behind)

    def _least_of(self, stands):
        return price_above(stands.made, self._rest_of(stands), ())

    def _rest_of(self, stands):
        fares, outs = {}, {}
        for name in stands.rulebook.things:
            if name in stands.bought:
                day, price = stands.bought[name]
                fares[name], outs[name] = _fare_on(day, price), None
            else:
                fare = least_fare(self._words, stands.pricelist, name)
                fares[name], outs[name] = _fare_from(stands.day, fare), self._outs[name]
        return Offer(stands.rulebook.things, fares, outs)


def _fare_on(day, price):
    """The fare of a price on one day alone."""
    return [((None, day - 1), None), ((day, day), price), ((day + 1, None), None)]


def _fare_from(day, fare):
    """The fare without the days ahead of one."""
    kept = [(common_days(days, (day, None)), price) for days, price in fare]
    return put_together([((None, day - 1), None)] + [(days, price) for days, price in kept if days is not None])
