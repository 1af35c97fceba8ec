"""Whose slip can be shown to a stranger, and whose slip the board alone settles."""

from falsedays.boards import BoardSets
from falsedays.errors import NoBoard, NoDay, NoNumber
from falsedays.forgeries import first_forgery
from falsedays.kinds import is_between, is_tuple_of
from falsedays.neighbours import are_two_with_place
from falsedays.offices import board, is_board, is_true
from falsedays.settling import first_settled


def possible_slips(office, sets, place, mark, answers):
    """The ascending list of the slips that true days of a board have at a place beside one of some answers."""
    return [slip for slip in range(office.sizes[0])
            if any([sets.is_possible(place, (slip, answer, mark)) for answer in answers])]


def forging(office):
    """Two true days of one board with one answer and unlike slips at a place, and this place, or None."""
    return first_forgery(office)


def is_forging(office, thing):
    """Whether a thing is such as forging gives."""
    if not are_two_with_place(office, thing):
        return False
    one, other, place = thing
    slip, answer, _ = one[0][place]
    other_slip, other_answer, _ = other[0][place]
    return answer == other_answer and slip != other_slip


def is_shown(office, sets, day, place):
    """Whether the board, with the answer at a place of a true day, leaves the day's slip alone there."""
    slip, answer, mark = day[0][place]
    return possible_slips(office, sets, place, mark, [answer]) == [slip]


def can_prove(office, day, place):
    """Whether the slip at a place can be shown by the board and the answer there."""
    if not is_true(office, day):
        raise NoDay()
    if not is_between(place, 0, len(day[0]) - 1):
        raise NoNumber()
    return is_shown(office, BoardSets(office, board(office, day)), day, place)


def shown_places(office, day):
    """The ascending tuple of the places whose slip can be shown."""
    if not is_true(office, day):
        raise NoDay()
    sets = BoardSets(office, board(office, day))
    return tuple([place for place in range(len(day[0])) if is_shown(office, sets, day, place)])


def settled(office, the_board):
    """The ascending list of the pairs of a place and its slip, where a board settles it."""
    if not is_board(office, the_board):
        raise NoBoard()
    sets = BoardSets(office, the_board)
    answers = list(range(office.sizes[1]))
    found = []
    for place, mark in enumerate(the_board[0]):
        slips = possible_slips(office, sets, place, mark, answers)
        if len(slips) == 1:
            found.append((place, slips[0]))
    return found


def indiscreet(office):
    """A true day and a place whose slip its board settles, or None."""
    return first_settled(office)


def is_indiscreet(office, thing):
    """Whether a thing is such as indiscreet gives."""
    if not is_tuple_of(thing, 2):
        return False
    day, place = thing
    if not is_true(office, day) or not is_between(place, 0, len(day[0]) - 1):
        return False
    return (place, day[0][place][0]) in settled(office, board(office, day))
