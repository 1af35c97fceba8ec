"""The reader of an office: the sets of standings that it can come to, numbered."""

from falsedays.errors import NoSteps, TooMany
from falsedays.kinds import all_fit
from falsedays.walks import BEGIN, lasts_of, table, ways_on

MOST_SETS = 60
DEAD = -1


def reader(office):
    """The moves and the last marks of each set that is not dead and can be come to."""
    rows = table(office)
    groups = [BEGIN]
    numbers = {BEGIN: 0}
    moves = []
    while len(moves) < len(groups):
        moves.append(numbered_moves(rows, groups[len(moves)], groups, numbers))
        if len(groups) > MOST_SETS:
            raise TooMany(MOST_SETS)
    return tuple(moves), tuple([lasts_of(office, group) for group in groups])


def numbered_moves(rows, group, groups, numbers):
    """The moves from a set; sets that are met first are put behind the groups and numbered."""
    moves = []
    for step, goals in ways_on(rows, group):
        if goals not in numbers:
            numbers[goals] = len(groups)
            groups.append(goals)
        moves.append(step + (numbers[goals],))
    return tuple(moves)


def ways_of(moves):
    """For each number a dict from its steps, ascending, to the numbers to which they lead."""
    return [{(slip, answer, mark): goal for slip, answer, mark, goal in row} for row in moves]


def number_behind(ways, number, steps):
    """The number to which steps lead from one, -1 if the set is dead."""
    for step in steps:
        if number == DEAD:
            return DEAD
        number = ways[number].get(step, DEAD)
    return number


def stand(office, steps):
    """The number of the set behind some steps, or -1 if it is dead."""
    if not all_fit(steps, office.sizes):
        raise NoSteps()
    moves, _ = reader(office)
    return number_behind(ways_of(moves), 0, steps)
