"""Stretches of days, and boxes of works and days."""

from cornerplans.errors import BadBox, BadNumber, BadStretch
from cornerplans.forms import is_name, is_number, is_pair


def is_stretch(thing):
    """Whether any value is a stretch of days."""
    if not is_pair(thing) or not all([end is None or is_number(end) for end in thing]):
        return False
    first, last = thing
    return first is None or last is None or first <= last


def in_stretch(day, stretch):
    """Whether a day is in a stretch."""
    if not is_number(day):
        raise BadNumber("this is no day")
    if not is_stretch(stretch):
        raise BadStretch("this is no stretch")
    first, last = stretch
    return (first is None or first <= day) and (last is None or day <= last)


class Box:
    """One work, or all, on the days of a stretch."""

    def __init__(self, work=None, days=(None, None)):
        if work is not None and not is_name(work):
            raise BadBox("work")
        if not is_stretch(days):
            raise BadBox("days")
        self._work = work
        self._days = days

    @property
    def work(self):
        """The work, None for all."""
        return self._work

    @property
    def days(self):
        """The stretch of its days."""
        return self._days

    def __contains__(self, pair):
        if not is_pair(pair) or not is_name(pair[0]) or not is_number(pair[1]):
            return False
        return self._work in (None, pair[0]) and in_stretch(pair[1], self._days)

    def __and__(self, other):
        if not isinstance(other, Box):
            return NotImplemented
        work = other._work if self._work is None else self._work
        days = common_days(self._days, other._days)
        if other._work not in (None, work) or days is None:
            return None
        return Box(work, days)

    def __eq__(self, other):
        return isinstance(other, Box) and self._work == other._work and self._days == other._days

    def is_within(self, other):
        """Whether all pairs of this box are in another one."""
        if not isinstance(other, Box):
            raise BadBox("other")
        return self & other == self


def common_days(one, other):
    """The stretch of the days of both, None if they have none in common."""
    firsts = [first for first, _ in (one, other) if first is not None]
    lasts = [last for _, last in (one, other) if last is not None]
    both = (max(firsts, default=None), min(lasts, default=None))
    return both if is_stretch(both) else None


def cut_out(stretch, other):
    """The stretches of the days of a stretch that are not in another one, which is a part of it."""
    (first, last), (begin, end) = stretch, other
    ahead = [] if begin == first else [(first, begin - 1)]
    behind = [] if end == last else [(end + 1, last)]
    return ahead + behind


def stretches_at(turns):
    """The stretches that begin on the days of turns, and one ahead of them; together they have all days."""
    days = sorted(set(turns))
    return list(zip([None, *days], [day - 1 for day in days] + [None]))


def turns_of(stretches):
    """The days on which one of some stretches begins, or has just ended."""
    firsts = [first for first, _ in stretches if first is not None]
    return firsts + [last + 1 for _, last in stretches if last is not None]


def day_in(stretch):
    """Some day of a stretch."""
    first, last = stretch
    if first is not None:
        return first
    return 0 if last is None else last


def put_together(pairs):
    """Pairs of neighbouring stretches and what is so on them, neighbours with the same made one."""
    rows = []
    for (first, last), worth in pairs:
        if rows and rows[-1][1] == worth:
            rows[-1] = ((rows[-1][0][0], last), worth)
        else:
            rows.append(((first, last), worth))
    return rows
