"""Strange clerks: what days come of them, and where one is caught."""

from falsedays.errors import NoClerk, NoNumber, NoSlips
from falsedays.kinds import fits, is_between
from falsedays.offices import are_slips, is_mark, is_true
from falsedays.tales import seeing

MOST_LED = 5


def led(office, clerk, slips):
    """The day that comes of a clerk and some slips."""
    if not are_slips(office, slips):
        raise NoSlips()
    steps = []
    for place, slip in enumerate(slips):
        told = clerk(slips[:place + 1], False)
        if not fits(told, office.sizes[1:]):
            raise NoClerk(place)
        answer, mark = told
        steps.append((slip, answer, mark))
    last = clerk(slips, True)
    if not is_mark(office, last):
        raise NoClerk(len(slips))
    return tuple(steps), last


def caught(office, clerk, many):
    """The least row of so many slips for which a clerk tells a false day, this day, and what sees it, or None."""
    if not is_between(many, 0, MOST_LED):
        raise NoNumber()
    for slips in rows_of_slips(office, many):
        day = led(office, clerk, slips)
        if not is_true(office, day):
            return slips, day, seeing(office, day)
    return None


def rows_of_slips(office, many):
    """The ascending list of all rows of so many slips."""
    rows = [()]
    for _ in range(many):
        rows = [row + (slip,) for row in rows for slip in range(office.sizes[0])]
    return rows
