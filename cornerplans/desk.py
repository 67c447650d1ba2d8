"""A desk: a house that is spoken to, line by line."""

from cornerplans.asking import steps, told
from cornerplans.corners import price_above
from cornerplans.errors import BadText, CornerError
from cornerplans.figures import number_of, number_text
from cornerplans.forms import is_name
from cornerplans.texts import end_text, limit_text, plan_text, read_plan, read_row, read_rule, read_start

OK = "ok"
NONE = "none"
NOT_UNDERSTOOD = "not understood"
MOST_INDEX = 99
MOST_DAY = 999999999


def _undo(house):
    house.undo()
    return OK


def _price(house):
    return _price_text(house.least())


def _best(house):
    plan = house.best()
    return NONE if plan is None else plan_text(plan)


def _corners(house):
    return _listed([f"{number_text(price)} {limit_text(limit)}" for price, limit in house.corners()])


def _now(house):
    return " ".join(house.now()) or NONE


def _done(house):
    return _listed([f"{name} {number_text(day)} {number_text(price)}" for name, (day, price) in house.done.items()])


def _add(house, text):
    house.add(read_rule(text))
    return OK


def _strike(house, text):
    house.strike(_index_in(text))
    return OK


def _put(house, text):
    house.put(read_row(text))
    return OK


def _end(house, text):
    at, _, day = text.partition(" ")
    house.end(_index_in(at), _day_in(day))
    return OK


def _take(house, text):
    house.take(_index_in(text))
    return OK


def _day(house, text):
    house.pass_to(_day_in(text))
    return OK


def _do(house, text):
    house.do(_name_in(text))
    return OK


def _told(house, text):
    return _told_text(told(house.words, house.prices, _name_in(text), house.today))


def _steps(house, text):
    rows = steps(house.words, house.prices, _name_in(text))
    return _listed([f"{end_text(first)} {end_text(last)} {_told_text(answer)}" for (first, last), answer in rows])


def _above(house, text):
    return _price_text(price_above(house.plans, house.rest(), read_plan(text)))


# What is done for a line of one word, and for a word with a text behind it.
ALONE = {"best": _best, "corners": _corners, "done": _done, "now": _now, "price": _price, "undo": _undo}
WITH_TEXT = {
    "above": _above,
    "add": _add,
    "day": _day,
    "do": _do,
    "end": _end,
    "put": _put,
    "steps": _steps,
    "strike": _strike,
    "take": _take,
    "told": _told,
}


class Desk:
    """A house that does what lines say, and answers them."""

    def __init__(self, text):
        self._house = read_start(text)

    def say(self, line):
        """The answer to a line, which may be any value."""
        if not isinstance(line, str):
            return NOT_UNDERSTOOD
        word, blank, text = line.partition(" ")
        try:
            if blank == "" and word in ALONE:
                answered = ALONE[word]
                return answered(self._house)
            if blank == " " and word in WITH_TEXT:
                answered_with = WITH_TEXT[word]
                return answered_with(self._house, text)
        except BadText:
            return NOT_UNDERSTOOD
        except CornerError as error:
            return "error " + error.__class__.__name__
        return NOT_UNDERSTOOD


def _listed(texts):
    return "; ".join(texts) or NONE


def _price_text(price):
    return NONE if price is None else number_text(price)


def _told_text(answer):
    return answer if isinstance(answer, str) else number_text(answer)


def _name_in(text):
    if not is_name(text):
        raise BadText(0)
    return text


def _index_in(text):
    number = number_of(text)
    if number is None or not 0 <= number <= MOST_INDEX:
        raise BadText(0)
    return number


def _day_in(text):
    number = number_of(text)
    if number is None or abs(number) > MOST_DAY:
        raise BadText(0)
    return number
