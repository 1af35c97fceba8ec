"""Tales: true days that look like a day on its board and at some places."""

from itertools import combinations
from falsedays.errors import NoDay, NoLot, NoNumber, TooMany
from falsedays.kinds import is_between, is_lot_below
from falsedays.offices import board, is_day, is_true
from falsedays.walks import after, closing_with, least_walk, sets_ahead, sets_leading, steps_on_board, table

MOST_NEIGHBOURS = 20
MOST_SEEN_BY = 8


def check_lot(office, day, lot):
    """Raises what is named for a day and a lot of its places."""
    if not is_day(office, day):
        raise NoDay()
    if not is_lot_below(lot, len(day[0])):
        raise NoLot()


def told_choices(office, steps, lot):
    """For each place the steps that a tale may have there: the told ones at the places of the lot."""
    choices = steps_on_board(office, [mark for _, _, mark in steps])
    for place in lot:
        choices[place] = [steps[place]]
    return choices


def least_tale(office, day, lot):
    """The least tale of a lot for a day, or None."""
    check_lot(office, day, lot)
    steps = least_walk(table(office), told_choices(office, day[0], lot), closing_with(office, day[1]))
    if steps is None:
        return None
    return steps, day[1]


def tale(office, day, lot):
    """A tale of a lot for a day, or None."""
    return least_tale(office, day, lot)


def is_tale(office, day, lot, thing):
    """Whether a thing is a tale of a lot for a day."""
    check_lot(office, day, lot)
    if not is_true(office, thing) or board(office, thing) != board(office, day):
        return False
    return all([thing[0][place] == day[0][place] for place in lot])


def unseen(office, day, k):
    """Whether a day is false and unseen by each k neighbours."""
    if not is_day(office, day):
        raise NoDay()
    if not is_between(k, 1, MOST_NEIGHBOURS):
        raise NoNumber()
    return not is_true(office, day) and all_have_tales(office, day, k)


def all_have_tales(office, day, k):
    """Whether each k neighbours have a tale for a day, or all together where there are fewer."""
    steps, last = day
    rows = table(office)
    choices = steps_on_board(office, [mark for _, _, mark in steps])
    ahead = sets_ahead(rows, choices)
    leading_on = sets_leading(rows, choices, closing_with(office, last))
    width = min(k, len(steps))
    for place in range(len(steps) - width + 1):
        group = ahead[place]
        for step in steps[place:place + width]:
            group = after(rows, group, step)
        if not group & leading_on[place + width]:
            return False
    return True


def seeing(office, day):
    """The ascending list of the lots that see a day and of which no place can be left out."""
    if not is_day(office, day):
        raise NoDay()
    many = len(day[0])
    if many > MOST_SEEN_BY:
        raise TooMany(MOST_SEEN_BY)
    found = []
    for size in range(many + 1):
        for lot in combinations(range(many), size):
            # Lots come with the smaller ones ahead, so a lot that holds a found one can spare a place.
            if not holds_any(lot, found) and least_tale(office, day, lot) is None:
                found.append(lot)
    return sorted(found)


def holds_any(lot, lots):
    """Whether a lot has all places of some lot."""
    return any([all([place in lot for place in other]) for other in lots])
