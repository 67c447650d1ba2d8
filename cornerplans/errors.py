"""The errors of the package, one class for each kind of failure."""


class CornerError(ValueError):
    """Any error that the package raises by itself."""


class BadPlan(CornerError):
    """A value is no plan of the things concerned."""


class BadPlans(CornerError):
    """A value is no list of plans (None), or an item of it is no plan (its index)."""

    def __init__(self, at):
        super().__init__("no list of plans")
        self.at = at


class BadNumber(CornerError):
    """A value is no number."""


class BadSide(CornerError):
    """A value is no side of a rule."""


class BadRule(CornerError):
    """A value is no rule of the things concerned."""


class BadRules(CornerError):
    """A value is no list of rules (None), or an item of it is no rule (its index)."""

    def __init__(self, at):
        super().__init__("no list of rules")
        self.at = at


class BadBook(CornerError):
    """A value is no Book (None), or a part of one is wrong."""

    def __init__(self, part):
        super().__init__("no book")
        self.part = part


class BadThing(CornerError):
    """A value is no thing of those concerned."""

    def __init__(self, thing):
        super().__init__("no thing")
        self.thing = thing


class NoPlans(CornerError):
    """A value is no Plans."""


class NoRule(CornerError):
    """A value is no index of a rule."""

    def __init__(self, at):
        super().__init__("no rule at this index")
        self.at = at


class BadLot(CornerError):
    """A value is no lot."""


class BadLimit(CornerError):
    """A value is no limit of the things concerned."""


class BadStretch(CornerError):
    """A value is no stretch of days."""


class BadBox(CornerError):
    """A part of a Box is wrong, or another value is no Box."""

    def __init__(self, part):
        super().__init__("no box")
        self.part = part


class BadRow(CornerError):
    """A part of a Row is wrong, or a value is no Row."""

    def __init__(self, part):
        super().__init__("no row")
        self.part = part


class BadRows(CornerError):
    """An item of a list of rows is no Row (its index)."""

    def __init__(self, at):
        super().__init__("no list of rows")
        self.at = at


class BadPrices(CornerError):
    """A value is no Prices (None), or a part of one is wrong."""

    def __init__(self, part):
        super().__init__("no prices")
        self.part = part


class NoRow(CornerError):
    """A value is no index of a row."""

    def __init__(self, at):
        super().__init__("no row at this index")
        self.at = at


class BadWords(CornerError):
    """A value is no Words, or no list of different words."""


class BadFare(CornerError):
    """A value is no fare."""

    def __init__(self, part):
        super().__init__("no fare")
        self.part = part


class BadOffer(CornerError):
    """A value is no Offer of the things concerned (None), or a part of one is wrong."""

    def __init__(self, part):
        super().__init__("no offer")
        self.part = part


class BadCell(CornerError):
    """A value is no cell."""


class BadForecast(CornerError):
    """A value is no Forecast, or a part of one is wrong."""

    def __init__(self, part):
        super().__init__("no forecast")
        self.part = part


class BadStrategy(CornerError):
    """A value is no strategy."""


class BadReceipts(CornerError):
    """A value is no list of receipts (None), or an item of it is no receipt (its index)."""

    def __init__(self, at):
        super().__init__("no list of receipts")
        self.at = at


class TooMany(CornerError):
    """There are more than can be."""

    def __init__(self, most):
        super().__init__("there are too many")
        self.most = most


class OtherThings(CornerError):
    """Two values have unlike things."""


class NotNow(CornerError):
    """A deed cannot be done now."""

    def __init__(self, word):
        super().__init__("this cannot be done now")
        self.word = word


class NothingDone(CornerError):
    """There is nothing that could be taken back."""


class BadHouse(CornerError):
    """A value is no House."""


class BadJournal(CornerError):
    """An entry of a journal is wrong (its index)."""

    def __init__(self, at):
        super().__init__("no journal of this house")
        self.at = at


class BadText(CornerError):
    """A line of a text is wrong (its number)."""

    def __init__(self, line):
        super().__init__("no such text")
        self.line = line


class BadMarks(CornerError):
    """A value is no list of marks (None), or an item of it is no mark (its index)."""

    def __init__(self, at):
        super().__init__("no list of marks")
        self.at = at


class NotSo(CornerError):
    """A plan is not what it must be here."""


class NoRounds(CornerError):
    """A value is no RoundBook."""


class NoTurns(CornerError):
    """A value is no Turns."""


class BadTurns(CornerError):
    """A part of a Turns is wrong."""

    def __init__(self, part):
        super().__init__("no turns")
        self.part = part
