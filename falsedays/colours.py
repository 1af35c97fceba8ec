"""Marks that are taken for one another."""

from falsedays.errors import NoColours
from falsedays.kinds import is_between, is_tuple_of
from falsedays.neighbours import enough
from falsedays.offices import made_office


def are_colours(office, thing):
    """Whether a thing is a tuple with a colour for each mark, none of them left out when they are met first."""
    if not is_tuple_of(thing, office.sizes[2]):
        return False
    most = -1
    for colour in thing:
        if not is_between(colour, 0, most + 1):
            return False
        most = max(most, colour)
    return True


def coloured(office, colours):
    """The office with colours in the place of marks."""
    if not are_colours(office, colours):
        raise NoColours()
    slips, answers, _ = office.sizes
    moves = tuple([tuple(sorted({(slip, answer, colours[mark], goal) for slip, answer, mark, goal in row}))
                   for row in office.moves])
    closings = tuple([tuple(sorted({colours[mark] for mark in row})) for row in office.closings])
    return made_office((slips, answers, max(colours) + 1), moves, closings)


def all_colours(marks):
    """The ascending list of all colours for so many marks."""
    found = [(0,)]
    for _ in range(marks - 1):
        found = [colours + (colour,) for colours in found for colour in range(max(colours) + 2)]
    return found


def good_colours(office, k):
    """The ascending list of all colours with which k is enough."""
    return [colours for colours in all_colours(office.sizes[2]) if enough(coloured(office, colours), k)]
