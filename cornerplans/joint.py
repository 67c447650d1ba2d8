"""Joint plans: plans for several offers at once, of which some things must come at one moment.

Each offer has a copy of each thing, which is a thing of the joint plans by a name of its own. As rules tie the copies
that must come at one moment, joint plans are made of makers like all others, and have latest limits in each box.
"""

from cornerplans.cells import last_first_day, latest_in_box, plan_far
from cornerplans.corners import undercut
from cornerplans.days import common_days, is_stretch
from cornerplans.fares import total_of
from cornerplans.moments import common_limit
from cornerplans.plans import makers_keeping, makers_of

LETTERS = "abcdef"


class Joint:
    """The joint plans for some offers, any two of which may be parted on a day: a thing comes ahead of this day in
    both of their plans at one moment, or in none. Partings tell the day, or None, for each pair of numbers."""

    def __init__(self, plans, offers, partings):
        self._things = plans.things
        self._makers = plans.makers
        self._fares = [offer.fares for offer in offers]
        self._outs = [offer.outs for offer in offers]
        self._partings = partings
        self._numbers = tuple(range(len(offers)))

    def corners(self):
        """The triples of prices, the limit of the floors that are met, and sources of joint plans, none of which is
        undercut by another one; a source is a triple of makers, a limit of them, and a day from which on they may be
        as late as one likes."""
        entries, known = [], {}
        for pattern in self._patterns():
            beside = [(self._no_prices(), tuple([(name, None) for name in self._things]), ())]
            for members in _tied_numbers(pattern, self._numbers):
                ties = tuple([tuple([group for group in groups if group[0] in members]) for groups in pattern])
                if ties not in known:
                    known[ties] = self._tied_corners(members, ties)
                beside = [_side_by_side(one, other) for one in beside for other in known[ties]]
            entries += beside
        return undercut(entries)

    def plans_from(self, sources, floors):
        """The plans, one for each offer, of some joint plans from sources that meet floors which they can meet."""
        moments = {}
        for makers, limit, day in sources:
            moments.update(dict(plan_far(makers, limit, max([day, *[floor for _, floor in floors]]))))
        rows = [[(name, self._copy(number, name)) for name in self._things] for number in self._numbers]
        return tuple([tuple([(name, moments[copy]) for name, copy in row if copy in moments]) for row in rows])

    def _copy(self, number, name):
        """The name of the copy that an offer has of a thing."""
        return LETTERS[number * len(self._things) + self._things.index(name)]

    def _no_prices(self):
        return tuple([0 for _ in self._numbers])

    def _patterns(self):
        """For each thing the groups of offers for which it comes at one moment, or is left out: all ways."""
        rows = [()]
        for number in self._numbers:
            rows = [more for groups in rows for more in _with_number(groups, number)]
        ways = [groups for groups in rows if all([self._window(group) is not None for group in groups])]
        patterns = [()]
        for _ in self._things:
            patterns = [(*pattern, groups) for pattern in patterns for groups in ways]
        return patterns

    def _window(self, group):
        """The stretch in which a thing can come at one moment for the offers of a group alone, None if it cannot."""
        firsts = [self._partings[one, other] for one in group for other in self._numbers if other not in group]
        if None in firsts:
            return None
        lasts = [day - 1 for day in self._inner_partings(group)]
        window = (max(firsts, default=None), min(lasts, default=None))
        return window if is_stretch(window) else None

    def _inner_partings(self, group):
        partings = [self._partings[one, other] for one in group for other in group if one != other]
        return [day for day in partings if day is not None]

    def _tied_corners(self, members, ties):
        """What corners tells, for joint plans of these offers alone, as if all others had the price 0."""
        makers = self._joint_makers(members, ties)
        entries = []
        for prices, box in self._boxes(ties):
            limit = latest_in_box(makers, box)
            if limit is not None:
                source = (makers, limit, last_first_day(box))
                entries.append((prices, self._foot(members, limit), (source,)))
        return undercut(entries)

    def _joint_makers(self, members, ties):
        """What makes the joint plans in which the copies that are tied come at one moment."""
        if all([groups == (members,) for groups in ties]):
            return [
                tuple([(self._copy(number, name), moment) for number in members for name, moment in maker])
                for maker in self._makers
            ]
        makers = [
            tuple([(self._copy(number, name), moment) for name, moment in maker])
            for number in members
            for maker in self._makers
        ]
        for thing, groups in zip(self._things, ties):
            for group in groups:
                for one, other in zip(group, group[1:]):
                    left, right = ((self._copy(one, thing), 0),), ((self._copy(other, thing), 0),)
                    makers = makers_of(makers_keeping(makers, (left, right)))
                    makers = makers_of(makers_keeping(makers, (right, left)))
        return makers

    def _boxes(self, ties):
        """The pairs of prices and a box in which joint plans have them, and copies that are tied have one stretch."""
        rows = [(self._no_prices(), {})]
        for name, groups in zip(self._things, ties):
            for group in groups:
                ways = self._ways(name, group)
                rows = [(_sums(prices, more), {**box, **part}) for prices, box in rows for more, part in ways]
        return [(prices, tuple(sorted(box.items(), key=lambda pair: pair[0]))) for prices, box in rows]

    def _ways(self, name, group):
        """The pairs of prices and a part of a box with which a thing comes, or is left out, for a group's offers."""
        ways = [(self._no_prices(), self._window(group))]
        for number in group:
            fare = [(days, price) for days, price in self._fares[number][name] if price is not None]
            met = [(prices, common_days(window, days), price) for prices, window in ways for days, price in fare]
            ways = [(_with_price(prices, number, price), days) for prices, days, price in met if days is not None]
        copies = [self._copy(number, name) for number in group]
        parts = [(prices, {copy: days for copy in copies}) for prices, days in ways]
        # Offers that are parted at some time leave a thing out each by itself.
        total = total_of([self._outs[number][name] for number in group])
        if total is not None and self._inner_partings(group) == []:
            parts.append((tuple([self._out(number, name, group) for number in self._numbers]), {}))
        return parts

    def _out(self, number, name, group):
        return self._outs[number][name] if number in group else 0

    def _foot(self, members, limit):
        """The limit of the things of which all these offers have a copy in a limit, at the first end of one."""
        ends, foot = dict(limit), []
        for name in self._things:
            copies = [self._copy(number, name) for number in members]
            if all([copy in ends for copy in copies]):
                foot.append((name, min([ends[copy] for copy in copies if ends[copy] is not None], default=None)))
        return tuple(foot)


def _with_number(groups, number):
    """The ways to put one more number into a group of its own, or into one of the groups."""
    grown = [groups[:at] + ((*groups[at], number),) + groups[at + 1:] for at in range(len(groups))]
    return [(*groups, (number,)), *grown]


def _tied_numbers(pattern, numbers):
    """The fewest tuples of numbers such that no group for any thing has numbers of two of them."""
    rows = [(number,) for number in numbers]
    for groups in pattern:
        for group in groups:
            touched = [row for row in rows if any([number in group for number in row])]
            others = [row for row in rows if row not in touched]
            rows = [*others, tuple(sorted([number for row in touched for number in row]))]
    return rows


def _with_price(prices, number, price):
    return (*prices[:number], price, *prices[number + 1:])


def _sums(prices, others):
    return tuple([price + other for price, other in zip(prices, others)])


def _side_by_side(one, other):
    """What is told of joint plans for some offers and for others, put together."""
    prices, limit, sources = one
    more, end, further = other
    return (_sums(prices, more), common_limit(limit, end), (*sources, *further))
