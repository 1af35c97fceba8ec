"""Claims: what people on a board say that their notes are, and who must be lying if the clerk is true."""

from falsedays.boards import BoardSets
from falsedays.errors import NoBoard, NoClaims, NoNumber
from falsedays.kinds import all_fit, is_integer, is_tuple_of
from falsedays.offices import is_board
from falsedays.readers import reader
from falsedays.tales import seeing


def check_claims(office, the_board, claims):
    """Raises what is named for a board and claims for it."""
    if not is_board(office, the_board):
        raise NoBoard()
    if not is_tuple_of(claims, len(the_board[0])) or not all_fit(claims, office.sizes[:2]):
        raise NoClaims()


def ways_by_mark(moves):
    """For each number of a reader a dict from marks to the ascending lists of notes, each with the next number."""
    ways = []
    for row in moves:
        found = {}
        for slip, answer, mark, goal in row:
            found.setdefault(mark, []).append(((slip, answer), goal))
        ways.append(found)
    return ways


def height_behind(height, note, claim):
    """The height behind a note: one more if it is unlike the claim."""
    if note == claim:
        return height
    return height + 1


def least_lies(office, the_board, claims):
    """The least number of claims that are unlike a true day of a board, and the least such day, or None."""
    check_claims(office, the_board, claims)
    moves, closings = reader(office)
    ways = ways_by_mark(moves)
    depths = depths_behind(ways, closings, the_board, claims)
    if depths[0][0] is None:
        return None
    marks, last = the_board
    number = 0
    steps = []
    for place, claim in enumerate(claims):
        mark = marks[place]
        note, number = first_with_depth(ways[number][mark], depths[place + 1], claim, depths[place][number])
        steps.append(note + (mark,))
    return depths[0][0], (tuple(steps), last)


def first_with_depth(found, depths, claim, depth):
    """The first of some notes, and its next number, with which so many claims are unlike from there on, or None."""
    for note, goal in found:
        if depths[goal] is not None and height_behind(depths[goal], note, claim) == depth:
            return note, goal
    return None


def depths_behind(ways, closings, the_board, claims):
    """For each place, and behind the last one, the least numbers of claims from there on that are unlike.

    There is one for each number of the reader, None where the rest of the board does not lead on to its last mark.
    """
    marks, last = the_board
    depths = [[0 if last in lasts else None for lasts in closings]]
    for mark, claim in zip(marks[::-1], claims[::-1]):
        depths.append([least_depth(found.get(mark, []), depths[-1], claim) for found in ways])
    return depths[::-1]


def least_depth(found, depths, claim):
    """The least number of claims that are unlike from there on with any of some notes, or None."""
    further = [height_behind(depths[goal], note, claim) for note, goal in found if depths[goal] is not None]
    if further:
        return min(further)
    return None


def heights(office, the_board, claims):
    """For each place, and behind the last one, and each number the least number of claims ahead that are unlike."""
    check_claims(office, the_board, claims)
    moves, _ = reader(office)
    ways = ways_by_mark(moves)
    rows = [(0,) + (None,) * (len(moves) - 1)]
    for mark, claim in zip(the_board[0], claims):
        row = [None] * len(moves)
        for number, height in enumerate(rows[-1]):
            if height is not None:
                for note, goal in ways[number].get(mark, []):
                    higher = height_behind(height, note, claim)
                    if row[goal] is None or higher < row[goal]:
                        row[goal] = higher
        rows.append(tuple(row))
    return tuple(rows)


def is_heights(office, the_board, claims, bound, thing):
    """Whether a thing is heights that show that so many claims at least are unlike each true day of a board."""
    check_claims(office, the_board, claims)
    if not is_integer(bound):
        raise NoNumber()
    moves, closings = reader(office)
    marks, last = the_board
    if not has_rows(thing, len(marks) + 1, len(moves)) or thing[0][0] is None or thing[0][0] > 0:
        return False
    ways = ways_by_mark(moves)
    for place, mark in enumerate(marks):
        if not leads_on(ways, thing[place], thing[place + 1], mark, claims[place]):
            return False
    return all([height is None or height >= bound for height, lasts in zip(thing[-1], closings) if last in lasts])


def has_rows(thing, many, size):
    """Whether a thing is a tuple of so many tuples of that size, of integers and None."""
    if not is_tuple_of(thing, many) or not all([is_tuple_of(row, size) for row in thing]):
        return False
    return all([height is None or is_integer(height) for row in thing for height in row])


def leads_on(ways, row, further, mark, claim):
    """Whether each height that a step with a mark leads to is there, and no higher than that step lets it be."""
    for number, height in enumerate(row):
        if height is not None:
            for note, goal in ways[number].get(mark, []):
                if further[goal] is None or further[goal] > height_behind(height, note, claim):
                    return False
    return True


def surely_lying(office, the_board, claims):
    """The ascending tuple of the places whose claim stands on no true day of a board."""
    check_claims(office, the_board, claims)
    reader(office)
    sets = BoardSets(office, the_board)
    steps = claimed_steps(the_board, claims)
    return tuple([place for place, step in enumerate(steps) if not sets.is_possible(place, step)])


def claimed_steps(the_board, claims):
    """The tuple of the steps that claims tell on a board."""
    return tuple([claim + (mark,) for claim, mark in zip(claims, the_board[0])])


def convicting(office, the_board, claims):
    """The ascending list of the lots whose claims no true day has together, and of which no place can be left out."""
    check_claims(office, the_board, claims)
    reader(office)
    # Such a lot is one that sees the day that is claimed.
    return seeing(office, (claimed_steps(the_board, claims), the_board[1]))
