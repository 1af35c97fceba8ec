"""Rules in words, and the offices that keep to them."""

from falsedays.dials import Dials
from falsedays.errors import TooMany
from falsedays.offices import MOST_STANDINGS, Office
from falsedays.plans import MARK, RuleLines
from falsedays.walks import standings_in
from falsedays.wording import read_lines


def read_rule(text):
    """The office of a rule."""
    lines = RuleLines()
    read_lines(text, lines)
    dials = Dials(lines.dial_sizes)
    # The first two dials are the answer and the mark, so what is below this is the values of all cells.
    values = dials.weights[MARK]
    starts = [0]
    numbers = {0: 0}
    moves = []
    while len(moves) < len(starts):
        row = []
        for slip in range(lines.sizes[0]):
            for state in standings_in(done_by(dials, lines.blocks["each"], slip, 1 << starts[len(moves)])):
                goal = state % values
                if goal not in numbers:
                    numbers[goal] = len(starts)
                    starts.append(goal)
                answer, mark = divmod(state // values, lines.sizes[2])
                row.append((slip, answer, mark, numbers[goal]))
        moves.append(tuple(sorted(row)))
        if len(starts) > MOST_STANDINGS:
            raise TooMany(MOST_STANDINGS)
    closings = tuple([last_marks(dials, lines.blocks["close"], 1 << start) for start in starts])
    return Office(lines.sizes, tuple(moves), closings)


def last_marks(dials, block, group):
    """The ascending tuple of the marks that hang behind the deeds of a block."""
    done = done_by(dials, block, None, group)
    return tuple([mark for mark in range(dials.sizes[MARK]) if dials.showing(done, MARK, mark)])


def done_by(dials, block, slip, group):
    """The set of the states that come of a set by the deeds of a block, one behind another."""
    for deed in block:
        group = done_by_one(dials, deed, slip, group)
    return group


def done_by_one(dials, deed, slip, group):
    """The set of the states that come of a set by one deed."""
    if deed.word == "put":
        return dials.put(group, deed.dial, deed.number)
    if deed.word == "add":
        return dials.turned(group, deed.dial, deed.number)
    if deed.word == "slip":
        return done_by(dials, deed.blocks[0 if slip == deed.number else 1], slip, group)
    if deed.word == "if":
        there = dials.showing(group, deed.dial, deed.number)
        elsewhere = group ^ there
        return done_by(dials, deed.blocks[0], slip, there) | done_by(dials, deed.blocks[1], slip, elsewhere)
    found = 0
    for block in deed.blocks:
        found = found | done_by(dials, block, slip, group)
    return found
