"""Regions of plans of the same things, told by bounds of moments and of differences of two moments.

A region is a dict from pairs (one, other) to bounds: the moment of one less that of other is at most the bound. In the
place of a thing START may stand, whose moment is 0; so (one, START) bounds the moment of one itself.
"""

START = ""


def tightened(region, pair, bound):
    """What is left of a region, all of whose bounds follow from no others, with one bound more; None if nothing is.

    The bounds of the region are as small as they can be, and so are those of what is left of it.
    """
    one, other = pair
    if pair in region and region[pair] <= bound:
        return region
    back = region.get((other, one))
    if back is not None and back + bound < 0:
        return None
    left = {each: region[each] for each in region}
    left[pair] = bound
    befores = [(name, least) for (name, end), least in region.items() if end == one]
    behinds = [(name, least) for (end, name), least in region.items() if end == other]
    for name, more in [*befores, (one, 0)]:
        for end, least in [*behinds, (other, 0)]:
            total = more + bound + least
            if name != end and total < left.get((name, end), total + 1):
                left[name, end] = total
    return left


def closed(region):
    """A region with bounds that are as small as they can be, None if it is empty."""
    left = {}
    for pair, bound in region.items():
        left = None if left is None else tightened(left, pair, bound)
    return left


def cut(region, other):
    """Regions, no two of which have a plan in common, that have what is in a region, but not in another one."""
    parts, left = [], region
    for (one, end), bound in other.items():
        if left is not None:
            parts.append(tightened(left, (end, one), -bound - 1))
            left = tightened(left, (one, end), bound)
    return [part for part in parts if part is not None]


def plan_of(region, things):
    """A plan of just these things in a region that is not empty, each as late as it can be behind those ahead."""
    left, moments = region, []
    for name in things:
        last, first = left.get((name, START)), left.get((START, name))
        moment = last if last is not None else -first if first is not None else 0
        left = tightened(tightened(left, (name, START), moment), (START, name), -moment)
        moments.append((name, moment))
    return tuple(moments)
