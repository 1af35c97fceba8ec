"""Judging of things that may be anything: integers, tuples of them, and rows in order."""


def is_integer(thing):
    """Whether a thing is an int that is not a bool."""
    return isinstance(thing, int) and not isinstance(thing, bool)


def is_between(thing, low, high):
    """Whether a thing is an integer from low to high."""
    return is_integer(thing) and low <= thing <= high


def is_tuple_of(thing, many):
    """Whether a thing is a tuple of so many items."""
    return isinstance(thing, tuple) and len(thing) == many


def are_between(thing, low, high):
    """Whether a thing is a tuple of integers from low to high."""
    return isinstance(thing, tuple) and all([is_between(part, low, high) for part in thing])


def fits(thing, sizes):
    """Whether a thing is a tuple with an integer for each size, from 0 on and below it."""
    if not is_tuple_of(thing, len(sizes)):
        return False
    return all([is_between(part, 0, size - 1) for part, size in zip(thing, sizes)])


def all_fit(thing, sizes):
    """Whether a thing is a tuple of things that fit the sizes."""
    return isinstance(thing, tuple) and all([fits(part, sizes) for part in thing])


def is_rising(row):
    """Whether each item is greater than the one ahead of it; they must be of one kind."""
    return all([row[at] < row[at + 1] for at in range(len(row) - 1)])


def is_lot_below(thing, size):
    """Whether a thing is an ascending tuple of unlike integers, from 0 on and below the size."""
    return are_between(thing, 0, size - 1) and is_rising(thing)


def is_rising_fit(thing, sizes):
    """Whether a thing is an ascending tuple of unlike tuples that fit the sizes."""
    return all_fit(thing, sizes) and is_rising(thing)
