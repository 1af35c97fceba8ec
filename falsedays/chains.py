"""Chains of two offices, and where the true days of two editions of a rule part."""

from falsedays.errors import NotChained, OtherSizes
from falsedays.offices import made_office
from falsedays.readers import DEAD, reader, ways_of


def chained(one_office, other_office):
    """The office in which each one's answer at the first office is the slip at the second one."""
    slips, answers, marks = one_office.sizes
    other_slips, other_answers, other_marks = other_office.sizes
    if answers > other_slips:
        raise NotChained()
    by_slip = [moves_by_slip(row) for row in other_office.moves]
    pairs = [(0, 0)]
    numbers = {(0, 0): 0}
    moves = []
    while len(moves) < len(pairs):
        one, other = pairs[len(moves)]
        row = []
        for step, goal in joint_moves(one_office.moves[one], by_slip[other], other_answers, other_marks):
            if goal not in numbers:
                numbers[goal] = len(pairs)
                pairs.append(goal)
            row.append(step + (numbers[goal],))
        moves.append(tuple(sorted(row)))
    closings = tuple([joint_lasts(one_office.closings[one], other_office.closings[other], other_marks)
                      for one, other in pairs])
    return made_office((slips, answers * other_answers, marks * other_marks), tuple(moves), closings)


def moves_by_slip(moves):
    """For each slip the list of the moves with it."""
    found = {}
    for move in moves:
        found.setdefault(move[0], []).append(move)
    return found


def joint_moves(moves, by_slip, other_answers, other_marks):
    """The ascending list of the steps that lead on from a pair of standings, each with the pair that it leads to."""
    found = []
    for slip, answer, mark, goal in moves:
        for _, other_answer, other_mark, other_goal in by_slip.get(answer, []):
            step = (slip, answer * other_answers + other_answer, mark * other_marks + other_mark)
            found.append((step, (goal, other_goal)))
    return sorted(found)


def joint_lasts(lasts, other_lasts, other_marks):
    """The ascending tuple of the last marks of a pair of standings."""
    return tuple([last * other_marks + other_last for last in lasts for other_last in other_lasts])


def same_days(one_office, other_office):
    """None if two offices have the same true days, otherwise the least day that is one of just one of them."""
    if one_office.sizes != other_office.sizes:
        raise OtherSizes()
    ways, closings = with_dead_row(one_office)
    other_ways, other_closings = with_dead_row(other_office)
    begin = (0, 0)
    met = {begin: None}
    queue = [begin]
    at = 0
    # What is met first is met by the least of the shortest rows of steps, and is asked in their order.
    while at < len(queue):
        pair = queue[at]
        one, other = pair
        lasts = sorted(set(closings[one]) ^ set(other_closings[other]))
        if lasts:
            return steps_to(met, pair), lasts[0]
        for step in sorted(set(ways[one]) | set(other_ways[other])):
            goal = (ways[one].get(step, DEAD), other_ways[other].get(step, DEAD))
            if goal not in met:
                met[goal] = (pair, step)
                queue.append(goal)
        at += 1
    return None


def with_dead_row(office):
    """The ways and the last marks of a reader, with a last row that the dead number, -1, finds."""
    moves, closings = reader(office)
    return ways_of(moves) + [{}], closings + ((),)


def steps_to(met, pair):
    """The steps by which a pair was met first."""
    steps = []
    while met[pair] is not None:
        pair, step = met[pair]
        steps.append(step)
    return tuple(steps[::-1])
