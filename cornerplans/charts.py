"""Charts: within which of many limits other ones are, told at once by the bits of numbers."""

from cornerplans.forms import end_key


class Chart:
    """Limits, numbered from 0 on. What is asked for has ends that some of the limits that are asked have for the
    same things."""

    def __init__(self, limits, asked):
        self._all = (1 << len(limits)) - 1
        self._bits = {}
        for name in sorted(set([name for limit in asked for name, _ in limit])):
            ends = list({dict(limit)[name]: True for limit in asked if name in dict(limit)})
            self._mark(name, limits, sorted(ends, key=end_key))

    def _mark(self, name, limits, ends):
        rows = [(dict(limit), at) for at, limit in enumerate(limits)]
        lasts = sorted([(end_key(last[name]), at) for last, at in rows if name in last])
        bits = 0
        for end in ends[::-1]:
            while lasts and lasts[-1][0] >= end_key(end):
                bits = bits | (1 << lasts.pop()[1])
            self._bits[name, end] = bits

    def around(self, limit):
        """A number whose bits tell within which of the limits this one is."""
        bits = self._all
        for pair in limit:
            bits = bits & self._bits[pair]
        return bits


def first_of(bits):
    """The place of the first bit of a number that is not 0."""
    return (bits & -bits).bit_length() - 1
