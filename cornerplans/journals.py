"""Journals: the deeds of a house, each with the least price behind it."""

from cornerplans.errors import BadHouse, BadJournal, CornerError
from cornerplans.forms import is_list, is_number, is_pair
from cornerplans.house import House

# How many values stand in a deed behind its word.
DEEDS = {"add": 1, "day": 1, "do": 1, "end": 2, "put": 1, "strike": 1, "take": 1, "undo": 0}


def journal_of(house):
    """The journal of the deeds of a house that stand."""
    check_house(house)
    other, entries = house.begun(), []
    for deed in house.log:
        _do(other, deed)
        entries.append((deed, other.least()))
    return entries


def first_wrong(house, journal):
    """The index of the first entry of any value that does not go through as a journal, None if there is none."""
    check_house(house)
    at, _ = _gone_through(house, journal)
    return at


def replayed(house, journal):
    """The house behind a journal, begun as another one."""
    check_house(house)
    at, other = _gone_through(house, journal)
    if at is not None:
        raise BadJournal(at)
    return other


def check_house(house):
    """BadHouse for what is no House."""
    if not isinstance(house, House):
        raise BadHouse("this is no house")


def _gone_through(house, journal):
    """The index of the first wrong entry, None if there is none, and a house begun anew that went up to it."""
    other = house.begun()
    if not is_list(journal):
        return (0, other)
    for at, entry in enumerate(journal):
        if not _goes_through(other, entry):
            return (at, other)
    return (None, other)


def _goes_through(house, entry):
    """Whether any value is a deed that the house does and the least price behind it."""
    if not is_pair(entry) or not _is_deed(entry[0]):
        return False
    deed, price = entry
    try:
        _do(house, deed)
    except CornerError:
        return False
    return price == house.least() and (price is None or is_number(price))


def _is_deed(thing):
    """Whether any value is a word of a deed, with as many values behind it as it takes."""
    if not isinstance(thing, tuple) or len(thing) == 0:
        return False
    return isinstance(thing[0], str) and thing[0] in DEEDS and len(thing) == DEEDS[thing[0]] + 1


def _do(house, deed):
    word = deed[0]
    if word == "add":
        house.add(deed[1])
    elif word == "strike":
        house.strike(deed[1])
    elif word == "put":
        house.put(deed[1])
    elif word == "end":
        house.end(deed[1], deed[2])
    elif word == "take":
        house.take(deed[1])
    elif word == "day":
        house.pass_to(deed[1])
    elif word == "do":
        house.do(deed[1])
    else:
        house.undo()
