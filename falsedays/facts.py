"""Facts of a day, and what a lot of people knows of them."""

from falsedays.errors import NoDay, NoFact
from falsedays.kinds import fits, is_lot_below, is_tuple_of
from falsedays.offices import is_day
from falsedays.tales import check_lot, told_choices
from falsedays.walks import closing_with, least_walk, table

MOST_STATES = 10


def is_fact(office, thing):
    """Whether a thing is a fact for the office."""
    if not is_tuple_of(thing, 2):
        return False
    moves, yes = thing
    if not isinstance(moves, tuple) or not 1 <= len(moves) <= MOST_STATES:
        return False
    slips, answers, marks = office.sizes
    bounds = (len(moves),) * (slips * answers * marks)
    return all([fits(row, bounds) for row in moves]) and is_lot_below(yes, len(moves))


def number_of(office, step):
    """The number of a step, when all steps of the office are ascending."""
    slip, answer, mark = step
    _, answers, marks = office.sizes
    return (slip * answers + answer) * marks + mark


def holds(office, fact, day):
    """Whether a fact holds on a day."""
    if not is_fact(office, fact):
        raise NoFact()
    if not is_day(office, day):
        raise NoDay()
    moves, yes = fact
    state = 0
    for step in day[0]:
        state = moves[state][number_of(office, step)]
    return state in yes


def known(office, fact, day, lot):
    """What a lot of people knows of a fact, with the tales that show it."""
    if not is_fact(office, fact):
        raise NoFact()
    check_lot(office, day, lot)
    yes = told_tale(office, fact, day, lot, True)
    no = told_tale(office, fact, day, lot, False)
    if yes is not None and no is not None:
        return "open", yes, no
    if yes is not None:
        return "yes", yes
    if no is not None:
        return "no", no
    return ("none",)


def told_tale(office, fact, day, lot, wanted):
    """A tale of a lot for a day on which a fact holds, or does not, as it is wanted, or None."""
    moves, yes = fact
    closing = closing_with(office, day[1])
    goals = 0
    for state in range(len(moves)):
        if (state in yes) == wanted:
            goals = goals | (closing << (state * len(office.moves)))
    steps = least_walk(joint_table(office, moves), told_choices(office, day[0], lot), goals)
    if steps is None:
        return None
    return steps, day[1]


def joint_table(office, moves):
    """The table of the office and a fact together: a standing and a state are one standing.

    Its number is the standing's, and as many as there are standings for each state ahead.
    """
    rows = table(office)
    joint = []
    for states in moves:
        for row in rows:
            joint.append({step: goals << (states[number_of(office, step)] * len(rows))
                          for step, goals in row.items()})
    return joint
