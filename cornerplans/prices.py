"""Rows of prices, and price lists."""

from cornerplans.days import Box
from cornerplans.errors import BadLot, BadNumber, BadPrices, BadRow, BadRows, NoRow, TooMany
from cornerplans.forms import is_index, is_list, is_lot, is_number

MOST_ROWS = 6
MOST_RANK = 9


class Row:
    """A price for the works and days of a box, with a rank."""

    def __init__(self, box, price, rank=0):
        if not isinstance(box, Box):
            raise BadRow("box")
        if not is_number(price) or price < 0:
            raise BadRow("price")
        if not is_number(rank) or not 0 <= rank <= MOST_RANK:
            raise BadRow("rank")
        self._box = box
        self._price = price
        self._rank = rank

    @property
    def box(self):
        """The works and days for which it tells a price."""
        return self._box

    @property
    def price(self):
        """The price."""
        return self._price

    @property
    def rank(self):
        """The rank."""
        return self._rank

    def __eq__(self, other):
        if not isinstance(other, Row):
            return False
        return self._box == other._box and self._price == other._price and self._rank == other._rank

    def ended(self, day):
        """The row that is left without the days from this one on, None if none is left."""
        if not is_number(day):
            raise BadNumber("this is no day")
        box = self._box & Box(None, (None, day - 1))
        return None if box is None else Row(box, self._price, self._rank)


class Prices:
    """At most six rows, in the order in which they were entered."""

    def __init__(self, rows=()):
        if not is_list(rows):
            raise BadPrices("rows")
        for at, row in enumerate(rows):
            if not isinstance(row, Row):
                raise BadRows(at)
        if len(rows) > MOST_ROWS:
            raise TooMany(MOST_ROWS)
        self._rows = tuple(rows)

    @property
    def rows(self):
        """The rows, in their order."""
        return self._rows

    def __len__(self):
        return len(self._rows)

    def __getitem__(self, at):
        if not is_index(at, len(self._rows)):
            raise NoRow(at)
        return self._rows[at]

    def __iter__(self):
        raise TypeError("prices cannot be iterated over")

    def __eq__(self, other):
        return isinstance(other, Prices) and self._rows == other._rows

    def with_row(self, row):
        """The prices with one more row, entered last."""
        if not isinstance(row, Row):
            raise BadRow("row")
        return Prices((*self._rows, row))

    def without(self, at):
        """The prices without the row at an index."""
        if not is_index(at, len(self._rows)):
            raise NoRow(at)
        return Prices(self._rows[:at] + self._rows[at + 1:])

    def with_ended(self, at, day):
        """The prices with what is left of one row without the days from this one on."""
        if not is_index(at, len(self._rows)):
            raise NoRow(at)
        row = self._rows[at].ended(day)
        left = () if row is None else (row,)
        return Prices(self._rows[:at] + left + self._rows[at + 1:])

    def some(self, lot):
        """The prices with the rows of a lot alone."""
        if not is_lot(lot, len(self._rows)):
            raise BadLot("this is no lot of rows of the prices")
        return Prices([self._rows[at] for at in lot])
