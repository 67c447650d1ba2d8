"""What numbers, names, lists and indexes are: the forms of values that several modules judge."""

MOST_LETTERS = 6
MOST_THINGS = 4


def is_number(thing):
    """Whether any value is a number: an int that is not a bool."""
    return isinstance(thing, int) and not isinstance(thing, bool)


def is_name(thing):
    """Whether any value is a name: a string of 1 to 6 letters a to z."""
    if not isinstance(thing, str) or len(thing) > MOST_LETTERS:
        return False
    return thing.isascii() and thing.isalpha() and thing.islower()


def is_list(thing):
    """Whether any value can stand where a list is expected."""
    return isinstance(thing, (list, tuple))


def is_pair(thing):
    """Whether any value is a pair: a tuple of two."""
    return isinstance(thing, tuple) and len(thing) == 2


def is_ascending(row):
    """Whether numbers, or names, ascend, none of them standing there twice."""
    return all([row[at] < row[at + 1] for at in range(len(row) - 1)])


def has_names(thing):
    """Whether any value is a tuple of pairs that begin with different names, ascending."""
    if not isinstance(thing, tuple) or not all([is_pair(pair) for pair in thing]):
        return False
    names = [name for name, _ in thing]
    return all([is_name(name) for name in names]) and is_ascending(names)


def are_things(thing):
    """Whether any value is a list of 1 to 4 different names."""
    if not is_list(thing) or not 1 <= len(thing) <= MOST_THINGS:
        return False
    return all([is_name(name) for name in thing]) and is_ascending(sorted(thing))


def is_index(thing, many):
    """Whether any value is an index from 0 on into so many items."""
    return is_number(thing) and 0 <= thing < many


def is_lot(thing, many):
    """Whether any value is an ascending tuple of different indexes into so many items."""
    if not isinstance(thing, tuple):
        return False
    return all([is_index(at, many) for at in thing]) and is_ascending(thing)


def first_key(first):
    """What first days are sorted by: None, no beginning, stands ahead of all numbers."""
    return (0, 0) if first is None else (1, first)


def end_key(end):
    """What last moments and days are sorted by: None, no end, stands behind all numbers."""
    return (1, 0) if end is None else (0, end)
