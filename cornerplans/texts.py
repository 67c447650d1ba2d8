"""Texts of plans, limits, rules, rows, words, price lists and houses, and what is read from them."""

from cornerplans.asking import check_prices, check_words
from cornerplans.days import Box
from cornerplans.errors import BadBox, BadLimit, BadPlan, BadRow, BadRule, BadText, BadWords
from cornerplans.figures import number_of, number_text
from cornerplans.forms import are_things, is_ascending, is_name
from cornerplans.house import House
from cornerplans.journals import check_house
from cornerplans.moments import is_limit, is_plan
from cornerplans.prices import MOST_ROWS, Prices, Row
from cornerplans.rules import MOST_RULES, Book, is_rule, is_rule_of
from cornerplans.words import Words

EMPTY = "-"
ANY = "*"
LEVEL = " <= "
HEADS = ("things", "words", "outs", "day")


def plan_text(plan):
    """The text of a plan."""
    if not is_plan(plan):
        raise BadPlan("this is no plan")
    return _pairs_text(plan)


def limit_text(limit):
    """The text of a limit."""
    if not is_limit(limit):
        raise BadLimit("this is no limit")
    return _pairs_text(limit)


def rule_text(rule):
    """The text of a rule."""
    if not is_rule(rule):
        raise BadRule("this is no rule")
    left, right = rule
    return _pairs_text(left) + LEVEL + _pairs_text(right)


def row_text(row):
    """The text of a row."""
    if not isinstance(row, Row):
        raise BadRow("row")
    first, last = row.box.days
    ends = [end_text(first), end_text(last)]
    return " ".join([row.box.work or ANY, *ends, number_text(row.price), number_text(row.rank)])


def words_text(words):
    """The text of a Words."""
    check_words(words)
    return " ".join(words.words)


def prices_text(prices):
    """The text of a price list: a line for each row."""
    check_prices(prices)
    return "".join([row_text(row) + "\n" for row in prices.rows])


def start_text(house):
    """The text of the beginning of a house."""
    check_house(house)
    begun = house.begun()
    outs = [EMPTY if out is None else number_text(out) for out in begun.outs.values()]
    heads = [begun.book.things, begun.words.words, outs, [number_text(begun.today)]]
    lines = [" ".join([head, *fields]) for head, fields in zip(HEADS, heads)]
    lines.extend([rule_text(rule) for rule in begun.book.rules])
    return "".join([line + "\n" for line in lines])


def read_plan(text):
    """The plan that has this text."""
    limit = _limit_in(text)
    if limit is None or not is_plan(limit):
        raise BadText(0)
    return limit


def read_limit(text):
    """The limit that has this text."""
    limit = _limit_in(text)
    if limit is None:
        raise BadText(0)
    return limit


def read_rule(text):
    """The rule that has this text."""
    rule = _rule_in(text)
    if rule is None:
        raise BadText(0)
    return rule


def read_row(text):
    """The row that has this text."""
    row = _row_in(text)
    if row is None:
        raise BadText(0)
    return row


def read_words(text):
    """The Words that have this text."""
    if not isinstance(text, str):
        raise BadText(0)
    words = _words_in(text.split(" ") if text else [])
    if words is None:
        raise BadText(0)
    return words


def read_prices(text):
    """The price list that has this text."""
    if not isinstance(text, str):
        raise BadText(0)
    *lines, left = text.split("\n")
    rows = []
    for at, line in enumerate(lines):
        row = _row_in(line) if at < MOST_ROWS else None
        if row is None:
            raise BadText(at)
        rows.append(row)
    if left != "":
        raise BadText(len(lines))
    return Prices(rows)


def read_start(text):
    """A house that begins as this text tells."""
    if not isinstance(text, str):
        raise BadText(0)
    *lines, left = text.split("\n")
    parts = []
    for at, line in enumerate(lines):
        part = _start_part(parts, line)
        if part is None:
            raise BadText(at)
        parts.append(part)
    if left != "" or len(lines) < len(HEADS):
        raise BadText(len(lines))
    things, words, outs, day, *rules = parts
    return House(Book(things, rules), words, dict(zip(things, outs)), day)


def end_text(end):
    """The text of the first or the last day of a stretch."""
    return ANY if end is None else number_text(end)


def _pairs_text(pairs):
    return " ".join([_pair_text(name, end) for name, end in pairs]) or EMPTY


def _pair_text(name, end):
    if end is None:
        return name + "+" + ANY
    return name + ("-" if end < 0 else "+") + number_text(abs(end))


def _limit_in(text):
    """The limit that any value is the text of, None if it is none."""
    if not isinstance(text, str):
        return None
    pairs = [] if text == EMPTY else [_pair_in(part) for part in text.split(" ")]
    return tuple(pairs) if is_limit(tuple(pairs)) else None


def _pair_in(text):
    """The pair of a thing and a number, or None, of which this is the text, None if there is none."""
    for sign in ("+", "-"):
        name, _, figures = text.partition(sign)
        number = number_of(figures)
        if is_name(name) and sign + figures == "+" + ANY:
            return (name, None)
        # Without a sign of its own, and with the sign that is due for 0.
        if is_name(name) and number is not None and not figures.startswith("-") and (number > 0 or sign == "+"):
            return (name, number if sign == "+" else -number)
    return None


def _rule_in(text):
    """The rule that any value is the text of, None if it is none."""
    if not isinstance(text, str):
        return None
    rule = tuple([_limit_in(side) for side in text.split(LEVEL)])
    return rule if is_rule(rule) else None


def _row_in(text):
    """The row that any value is the text of, None if it is none."""
    fields = text.split(" ") if isinstance(text, str) else []
    if len(fields) != 5:
        return None
    work, first, last, price, rank = fields
    days = tuple([None if end == ANY else number_of(end) for end in (first, last)])
    if [end_text(end) for end in days] != [first, last]:
        return None
    try:
        return Row(Box(None if work == ANY else work, days), number_of(price), number_of(rank))
    except (BadBox, BadRow):
        return None


def _words_in(fields):
    try:
        return Words(fields)
    except BadWords:
        return None


def _start_part(parts, line):
    """What the line behind some parts of a start tells, None if it cannot stand there."""
    at = len(parts)
    if at >= len(HEADS):
        rule = _rule_in(line)
        fits_in = rule is not None and is_rule_of(rule, parts[0]) and at < len(HEADS) + MOST_RULES
        return rule if fits_in else None
    head, *fields = line.split(" ")
    if head != HEADS[at]:
        return None
    if at == 0:
        return fields if are_things(fields) and is_ascending(fields) else None
    if at == 1:
        return _words_in(fields)
    if at == 2:
        return _outs_in(parts[0], fields)
    return number_of(fields[0]) if len(fields) == 1 else None


def _outs_in(things, fields):
    """What it costs to leave each thing out as the fields tell it, None if they do not."""
    outs = [None if field == EMPTY else number_of(field) for field in fields]
    wrong = [field for field, out in zip(fields, outs) if field != EMPTY and (out is None or out < 0)]
    return outs if len(outs) == len(things) and not wrong else None
