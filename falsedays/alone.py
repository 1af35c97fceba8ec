"""What each one alone can tell of the others by the board and the own note."""

from falsedays.counting import closing_walks
from falsedays.errors import NoBoard, NoNote, NoNumber
from falsedays.kinds import fits, is_between
from falsedays.neighbours import are_two_with_place, crossing
from falsedays.offices import is_board, is_true
from falsedays.walks import steps_on_board


def left(office, the_board, place, note):
    """The number of the rows of notes of the others that a person with this note leaves on a board."""
    if not is_board(office, the_board):
        raise NoBoard()
    marks, last = the_board
    if not is_between(place, 0, len(marks) - 1):
        raise NoNumber()
    if not fits(note, office.sizes[:2]):
        raise NoNote()
    choices = steps_on_board(office, marks)
    choices[place] = [note + (marks[place],)]
    return closing_walks(office, choices, last)


def learning(office):
    """Two true days of one board and a place whose note cannot be brought from the one to the other, or None."""
    crossed = crossing(office, 1)
    if crossed is None:
        return None
    one, other, high = crossed
    # With no step of the one the day is true, with those ahead of high it is false:
    # so between two of these numbers that are neighbours it turns false.
    low = 0
    while high - low > 1:
        middle = (low + high) // 2
        if is_true(office, crossed_at(one, other, middle)):
            low = middle
        else:
            high = middle
    return one, crossed_at(one, other, low), low


def crossed_at(one, other, place):
    """The day with the steps of one ahead of a place, and those of another from there on."""
    return one[0][:place] + other[0][place:], other[1]


def is_learning(office, thing):
    """Whether a thing is such as learning gives."""
    if not are_two_with_place(office, thing):
        return False
    one, other, place = thing
    steps, last = other
    return not is_true(office, (steps[:place] + one[0][place:place + 1] + steps[place + 1:], last))
