"""Walks through the standings of an office.

A set of standings is kept as an integer with a bit for each of them, since an office
may come to more sets than could be numbered beforehand.
"""

BEGIN = 1


def standings_in(group):
    """The ascending list of the standings in a set."""
    found = []
    while group:
        low = group & -group
        found.append(low.bit_length() - 1)
        group = group ^ low
    return found


def table(office):
    """For each standing a dict from its steps, ascending, to the sets to which they lead."""
    rows = []
    for moves in office.moves:
        row = {}
        for slip, answer, mark, goal in moves:
            step = (slip, answer, mark)
            row[step] = row.get(step, 0) | (1 << goal)
        rows.append(row)
    return rows


def live_standings(office):
    """The set of the standings from which steps, perhaps none, lead to one that may close."""
    rows = table(office)
    live = 0
    further = closing_ever(office)
    while further != live:
        live = further
        for standing, row in enumerate(rows):
            if any([goals & live for goals in row.values()]):
                further = further | (1 << standing)
    return live


def after(rows, group, step):
    """The set to which moves with a step lead from a set."""
    goals = 0
    for standing in standings_in(group):
        goals = goals | rows[standing].get(step, 0)
    return goals


def after_any(rows, group, steps):
    """The set to which moves with any of some steps lead from a set."""
    goals = 0
    for step in steps:
        goals = goals | after(rows, group, step)
    return goals


def behind(rows, steps):
    """The set in which the office may stand behind some steps, one behind another."""
    group = BEGIN
    for step in steps:
        group = after(rows, group, step)
    return group


def ways_on(rows, group):
    """The ascending list of the pairs of a step and the set to which it leads from a set."""
    found = {}
    for standing in standings_in(group):
        for step, goals in rows[standing].items():
            found[step] = found.get(step, 0) | goals
    return sorted(found.items())


def steps_on(rows, group, goals):
    """The ascending list of the steps that lead from a set to one of the goals."""
    return [step for step, further in ways_on(rows, group) if further & goals]


def leading(rows, steps, goals):
    """The set of the standings from which any of some steps leads to one of the goals."""
    found = 0
    for standing, row in enumerate(rows):
        if any([row.get(step, 0) & goals for step in steps]):
            found = found | (1 << standing)
    return found


def closing_with(office, last):
    """The set of the standings that may close with a last mark."""
    found = 0
    for standing, marks in enumerate(office.closings):
        if last in marks:
            found = found | (1 << standing)
    return found


def closing_ever(office):
    """The set of the standings that may close with some last mark."""
    found = 0
    for standing, marks in enumerate(office.closings):
        if marks:
            found = found | (1 << standing)
    return found


def lasts_of(office, group):
    """The ascending tuple of the last marks with which a set closes."""
    return tuple(sorted({mark for standing in standings_in(group) for mark in office.closings[standing]}))


def all_steps(office):
    """The ascending list of all steps of an office."""
    slips, answers, marks = office.sizes
    return [(slip, answer, mark) for slip in range(slips) for answer in range(answers) for mark in range(marks)]


def steps_with_mark(office, mark):
    """The ascending list of all steps of an office with a mark."""
    slips, answers, _ = office.sizes
    return [(slip, answer, mark) for slip in range(slips) for answer in range(answers)]


def steps_on_board(office, marks):
    """For each mark of a board the list of all steps with it."""
    by_mark = [steps_with_mark(office, mark) for mark in range(office.sizes[2])]
    return [by_mark[mark] for mark in marks]


def sets_ahead(rows, choices):
    """For each place, and behind the last one, the set that any of the choices ahead lead to."""
    sets = [BEGIN]
    for steps in choices:
        sets.append(after_any(rows, sets[-1], steps))
    return sets


def sets_leading(rows, choices, goals):
    """For each place, and behind the last one, the set from which the choices lead to a goal."""
    sets = [goals]
    for steps in reversed(choices):
        sets.append(leading(rows, steps, sets[-1]))
    return sets[::-1]


def least_walk(rows, choices, goals):
    """The least tuple of steps, one of each choice, that leads to a goal, or None.

    The choices are ascending: so the first step that still leads to a goal is the least.
    """
    sets = sets_leading(rows, choices, goals)
    if not sets[0] & BEGIN:
        return None
    group = BEGIN
    walked = []
    for place, steps in enumerate(choices):
        step = first_leading(rows, group, steps, sets[place + 1])
        walked.append(step)
        group = after(rows, group, step)
    return tuple(walked)


def first_leading(rows, group, steps, goals):
    """The first of some steps that leads from a set to one of the goals, or None."""
    for step in steps:
        if after(rows, group, step) & goals:
            return step
    return None
