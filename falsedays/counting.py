"""Counting of true days, and their numbers when those of so many people are ascending.

The reader goes by just one way for each row of steps, so days are counted by its ways.
"""

from falsedays.errors import NoBoard, NoDay, NoNumber
from falsedays.kinds import is_between
from falsedays.offices import is_board, is_true
from falsedays.readers import reader, ways_of
from falsedays.walks import steps_on_board

MOST_COUNTED = 10 ** 30
MOST_MODULUS = 10 ** 30
MOST_NUMBERED = 60


def many_days(office, many, modulus):
    """The rest of the number of true days of so many people, divided by a modulus."""
    if not is_between(many, 0, MOST_COUNTED):
        raise NoNumber()
    if not is_between(modulus, 1, MOST_MODULUS):
        raise NoNumber()
    moves, closings = reader(office)
    counts = [step_counts(row, len(moves)) for row in moves]
    days = [len(lasts) for lasts in closings]
    # The counts are those of 1, 2, 4, .. steps, as they are needed for the binary figures of many.
    while many > 0:
        if many & 1:
            days = [sum([count * day for count, day in zip(row, days)]) % modulus for row in counts]
        many = many >> 1
        if many > 0:
            counts = doubled(counts, modulus)
    return days[0] % modulus


def step_counts(moves, many):
    """The list of how many of some moves lead to each of so many numbers of a reader."""
    counts = [0] * many
    for move in moves:
        counts[move[3]] += 1
    return counts


def doubled(counts, modulus):
    """The rests of the counts of the ways of twice as many steps."""
    columns = [[row[number] for row in counts] for number in range(len(counts))]
    return [[sum([one * other for one, other in zip(row, column)]) % modulus for column in columns] for row in counts]


def rest_counts(ways, closings, many):
    """For each number of steps up to many, and each number of a reader, how many rests of days go on from there."""
    counts = [[len(lasts) for lasts in closings]]
    for _ in range(many):
        counts.append([sum([counts[-1][goal] for goal in row.values()]) for row in ways])
    return counts


def day_at(office, many, number):
    """The true day with a number, when those of so many people are ascending."""
    if not is_between(many, 0, MOST_NUMBERED):
        raise NoNumber()
    moves, closings = reader(office)
    ways = ways_of(moves)
    counts = rest_counts(ways, closings, many)
    if not is_between(number, 0, counts[many][0] - 1):
        raise NoNumber()
    at = 0
    steps = []
    for left in reversed(range(many)):
        step, number = passed_by(ways[at], counts[left], number)
        at = ways[at][step]
        steps.append(step)
    return tuple(steps), closings[at][number]


def passed_by(row, counts, number):
    """The step of the day with a number among those that go on from here, and its number among those with this step."""
    for step, goal in row.items():
        if number < counts[goal]:
            return step, number
        number -= counts[goal]
    return None


def day_number(office, day):
    """The number of a true day, when those of so many people are ascending."""
    if not is_true(office, day):
        raise NoDay()
    steps, last = day
    moves, closings = reader(office)
    ways = ways_of(moves)
    counts = rest_counts(ways, closings, len(steps))
    at = 0
    number = 0
    for place, step in enumerate(steps):
        left = counts[len(steps) - place - 1]
        number += sum([left[goal] for other, goal in ways[at].items() if other < step])
        at = ways[at][step]
    return number + closings[at].index(last)


def many_with(office, the_board):
    """The number of the true days of a board."""
    if not is_board(office, the_board):
        raise NoBoard()
    marks, last = the_board
    return closing_walks(office, steps_on_board(office, marks), last)


def closing_walks(office, choices, last):
    """How many true days with a last mark have one step of each choice."""
    moves, closings = reader(office)
    ways = ways_of(moves)
    counts = {0: 1}
    for steps in choices:
        further = {}
        for number, count in counts.items():
            for step in steps:
                if step in ways[number]:
                    goal = ways[number][step]
                    further[goal] = further.get(goal, 0) + count
        counts = further
    return sum([count for number, count in counts.items() if last in closings[number]])
