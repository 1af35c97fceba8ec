"""The search for two days of one board that have one answer and unlike slips at a place.

It goes by pairs of standings, with a flag that tells whether there was such a place: so it
needs no reader, and is bounded by the number of the standings.
"""

from falsedays.pairs import way_to
from falsedays.walks import live_standings


def first_forgery(office):
    """Two true days of one board, and the first place at which they have one answer and unlike slips, or None."""
    live = live_standings(office)
    moves = [[move for move in row if (live >> move[3]) & 1] for row in office.moves]
    by_mark = [firsts_by_mark(row) for row in moves]
    by_answer = [moves_by_answer(row) for row in moves]
    begin = (False, 0, 0)
    met = {begin: None}
    queue = [begin]
    at = 0
    while at < len(queue):
        parted, one, other = queue[at]
        last = common_last(office, one, other)
        if parted and last is not None:
            return told_forgery(met, queue[at], last)
        found = like_marks(by_mark[one], by_mark[other], parted)
        if not parted:
            found = found + unlike_slips(by_answer[one], by_answer[other])
        for goal, step, other_step in found:
            if goal not in met:
                met[goal] = (queue[at], step, other_step)
                queue.append(goal)
        at += 1
    return None


def firsts_by_mark(moves):
    """For each mark a dict from the standings to which moves with it lead, to the first step that does."""
    found = {}
    for slip, answer, mark, goal in moves:
        found.setdefault(mark, {}).setdefault(goal, (slip, answer, mark))
    return found


def moves_by_answer(moves):
    """For each pair of an answer and a mark the list of the moves with them."""
    found = {}
    for move in moves:
        found.setdefault(move[1:3], []).append(move)
    return found


def common_last(office, one, other):
    """A last mark with which two standings close, or None."""
    for last in office.closings[one]:
        if last in office.closings[other]:
            return last
    return None


def like_marks(firsts, other_firsts, parted):
    """What two moves with one mark lead to, each with such steps."""
    found = []
    for mark, goals in firsts.items():
        for other_goal, other_step in other_firsts.get(mark, {}).items():
            for goal, step in goals.items():
                found.append(((parted, goal, other_goal), step, other_step))
    return found


def unlike_slips(by_answer, other_by_answer):
    """What two moves with one mark, one answer and unlike slips lead to, each with such steps."""
    found = []
    for key, moves in by_answer.items():
        for other_move in other_by_answer.get(key, []):
            for move in moves:
                if move[0] != other_move[0]:
                    found.append(((True, move[3], other_move[3]), move[:3], other_move[:3]))
    return found


def told_forgery(met, goal, last):
    """The two days that lead to a pair, and the first place at which they have one answer and unlike slips."""
    steps, other_steps = way_to(met, goal)
    place = 0
    while steps[place][1] != other_steps[place][1] or steps[place][0] == other_steps[place][0]:
        place += 1
    return (steps, last), (other_steps, last), place
