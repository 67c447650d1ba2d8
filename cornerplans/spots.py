"""Spots: plans told by the remainders that their moments leave by a number, and how often they are put off by it."""

from cornerplans.cells import latest
from cornerplans.forms import has_names, is_index
from cornerplans.paces import barring, is_barring, parts_of, ways_of
from cornerplans.plans import Plans, keeping
from cornerplans.rounds import RoundBook, rule_at


def is_spot_cell(thing, number, things):
    """Whether any value is a spot cell of these things by a number."""
    return has_names(thing) and all([name in things and is_index(spot, number) for name, spot in thing])


def book_in(rounds, number, cell):
    """The round book of how often the things of a spot cell are put off by a number from their spots."""
    spots = dict(cell)
    rules = []
    for left, right in rounds.rules:
        for name, wait, many in left:
            if name in spots:
                reach = [
                    (other, (spots[other] + more - spots[name] - wait) // number, further)
                    for other, more, further in right
                    if other in spots
                ]
                rules.append((((name, 0, many),), tuple(reach)))
    return RoundBook(list(spots), rules)


def parts_in(rounds, number, cell, span):
    """Stretches of numbers of a span, with whether some plan in a spot cell keeps the round rules at the paces that
    are a number times them."""
    if cell == ():
        return [(span, True)]
    return parts_of(ways_of(book_in(rounds, number, cell), [name for name, _ in cell]), span)


def plan_in(rounds, number, cell, pace):
    """A plan in a spot cell that keeps the round rules at a pace, where there is one."""
    if cell == ():
        return ()
    spots, book = dict(cell), book_in(rounds, number, cell)
    plans = Plans(book.things, [((name, 0),) for name in book.things])
    for rule in book.rules:
        plans = keeping(plans, rule_at(rule, pace // number))
    often = latest(plans, tuple([(name, 0) for name in book.things]))
    return tuple([(name, spots[name] + number * moment) for name, moment in often])


def is_bar(book, pace, thing):
    """Whether any value is a barring choice of a round book at a pace."""
    if not isinstance(thing, dict):
        return False
    return any([is_barring(book, pace, name, thing) for name in book.things])


def bar_in(book, pace):
    """A barring choice of a round book at a pace at which no plan has all its things."""
    found = [barring(book, pace, name) for name in book.things]
    return [choice for choice in found if choice is not None][0]
