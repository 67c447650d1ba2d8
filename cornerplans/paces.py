"""Paces: at which of them plans keep round rules, and choices of rules that bar things.

A way of a thing is a pair of the index of a rule at whose left it stands and the steps that lead from it by this rule:
triples of the thing to which a step leads, and two numbers of which it counts the first one plus the pace times the
second one. Things with a way each are chosen; this bars them if all things to which steps lead are chosen, too, and
all rings sum to less than 0. As each ring does so up to some pace or from some pace on, a choice bars at the paces of
a stretch.
"""

from cornerplans.days import common_days, cut_out, put_together
from cornerplans.errors import BadLot, BadThing
from cornerplans.forms import first_key, is_ascending, is_index
from cornerplans.rounds import check_pace, check_rounds


def is_barring(rounds, pace, name, thing):
    """Whether any value is a barring choice at a pace with a thing among its keys."""
    _check_asked(rounds, pace, name)
    if not isinstance(thing, dict) or name not in thing:
        return False
    if not all([key in rounds.things and is_index(at, len(rounds)) for key, at in thing.items()]):
        return False
    chosen = {key: _way(rounds, at, key, rounds.things) for key, at in thing.items()}
    if None in list(chosen.values()):
        return False
    if not all([other in chosen for _, steps in chosen.values() for other, _, _ in steps]):
        return False
    return all([_below_zero(_rings(chosen, key), (pace, pace)) is not None for key in chosen])


def barring(rounds, pace, name):
    """A barring choice at a pace with a thing among its keys, None if the thing comes in some plan."""
    _check_asked(rounds, pace, name)
    found = _barred(ways_of(rounds, rounds.things), {}, (name,), (pace, pace))
    if found is None:
        return None
    chosen, _ = found
    return {key: chosen[key][0] for key in sorted(chosen)}


def paces(rounds, lot):
    """The fewest stretches of all paces at which some plan keeps the round rules and has just the things of a lot."""
    check_rounds(rounds)
    if not isinstance(lot, tuple) or not all([name in rounds.things for name in lot]) or not is_ascending(lot):
        raise BadLot("this is no lot of things of the rounds")
    return [part for part, is_free in parts_of(ways_of(rounds, lot), (None, None)) if is_free]


def ways_of(rounds, lot):
    """The ways of each thing of a lot, with the steps that lead to things of the lot."""
    ways = {}
    for name in lot:
        rows = [_way(rounds, at, name, lot) for at in range(len(rounds))]
        ways[name] = [row for row in rows if row is not None]
    return ways


def parts_of(ways, span):
    """Stretches that together have the paces of a stretch, ascending, each with whether all things can come there."""
    parts, spans = [], [span]
    while spans:
        part = spans.pop()
        found = _first_barred(ways, part)
        if found is None:
            parts.append((part, True))
        else:
            parts.append((found, False))
            spans.extend(cut_out(part, found))
    return put_together(sorted(parts, key=lambda row: first_key(row[0][0])))


def _check_asked(rounds, pace, name):
    check_pace(rounds, pace)
    if name not in rounds.things:
        raise BadThing(name)


def _way(rounds, at, name, lot):
    """The way of a thing by a rule, with the steps that lead to things of a lot; None if it is not at its left."""
    left, right = rounds[at]
    starts = [(wait, many) for other, wait, many in left if other == name]
    if not starts:
        return None
    start, turn = starts[0]
    return (at, [(other, wait - start, many - turn) for other, wait, many in right if other in lot])


def _first_barred(ways, span):
    """A stretch of paces of a span at which some thing is barred, None if none is anywhere in it."""
    for name in ways:
        found = _barred(ways, {}, (name,), span)
        if found is not None:
            return found[1]
    return None


def _barred(ways, chosen, wanted, span):
    """Ways of chosen and wanted things, and of all to which they lead, that bar at some paces of a span, with the
    stretch of these; None if there are none."""
    if not wanted:
        return (chosen, span)
    name = wanted[0]
    for at, steps in ways[name]:
        grown = {**chosen, name: (at, steps)}
        part = _below_zero(_rings(grown, name), span)
        if part is not None:
            further = [other for other, _, _ in steps if other not in grown and other not in wanted]
            found = _barred(ways, grown, (*wanted[1:], *further), part)
            if found is not None:
                return found
    return None


def _rings(chosen, name):
    """What the rings through a thing count, as pairs of two numbers like those of steps."""
    rings, paths = [], [((name,), 0, 0)]
    while paths:
        path, count, turn = paths.pop()
        steps = chosen[path[-1]][1] if path[-1] in chosen else []
        for other, more, many in steps:
            if other == name:
                rings.append((count + more, turn + many))
            elif other not in path:
                paths.append(((*path, other), count + more, turn + many))
    return rings


def _below_zero(rings, span):
    """The stretch of the paces of a span at which all rings sum to less than 0, None if there are none."""
    part = span
    for count, turn in rings:
        if turn == 0:
            ring_part = (None, None) if count < 0 else None
        elif turn > 0:
            ring_part = (None, (-count - 1) // turn)
        else:
            # The least pace at which pace * -turn is count + 1 or more.
            ring_part = (-((-count - 1) // -turn), None)
        part = None if part is None or ring_part is None else common_days(part, ring_part)
    return part
