"""Fewest choices: how many indexes are needed so that each of some lots has one of them."""


def fewest_for(lots):
    """The least number of indexes such that each lot, a tuple of one or more, has one of them."""
    needed = _reduced(lots)
    many = _apart(needed)
    while not _is_enough(needed, many):
        many += 1
    return many


def _reduced(lots):
    """Lots, perhaps fewer and smaller ones, that need as many indexes."""
    ahead, left = [], _least_lots(lots)
    while left != ahead:
        ahead = left
        left = _least_lots(_without_needless(ahead))
    return left


def _least_lots(lots):
    """The different lots within which no other one is: who has one of each of these has one of each."""
    found = []
    for lot in sorted(sorted(set([tuple(sorted(lot)) for lot in lots])), key=len):
        if not any([_has_all(lot, other) for other in found]):
            found.append(lot)
    return found


def _without_needless(lots):
    """The lots without the indexes in whose place another one can always be chosen."""
    places = {}
    for place, lot in enumerate(lots):
        for at in lot:
            places.setdefault(at, []).append(place)
    needless = [one for one in places if any([_is_better(places, other, one) for other in places])]
    return [tuple([kept for kept in row if kept not in needless]) for row in lots]


def _is_better(places, other, at):
    """Whether each lot that has an index has another one, too, which is in more lots, or stands ahead of it."""
    if not _has_all(places[other], places[at]):
        return False
    return len(places[other]) > len(places[at]) or other < at


def _has_all(lot, other):
    return all([at in lot for at in other])


def _apart(lots):
    """How many lots without a common index are found at once; at least so many indexes are needed."""
    taken, many = {}, 0
    for lot in lots:
        if not any([at in taken for at in lot]):
            taken.update({at: True for at in lot})
            many += 1
    return many


def _is_enough(lots, many):
    """Whether so many indexes can be chosen such that each lot has one of them."""
    if not lots:
        return True
    if _apart(lots) > many:
        return False
    first = min(lots, key=len)
    tried = []
    for at in first:
        # What was tried, and was not enough, need not be tried once more beside another index.
        rest = [tuple([other for other in lot if other not in tried]) for lot in lots if at not in lot]
        if _is_enough(_reduced(rest), many - 1):
            return True
        tried.append(at)
    return False
