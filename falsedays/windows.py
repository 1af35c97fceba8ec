"""Days of which each k neighbours have a tale.

All boards of true days are gone through, and on each all steps, place by place. The sets
of standings of the neighbours under way tell whether a tale goes on: where it does for the
first of them it does for the others, so each begin that is kept leads to a day, and no more
are kept than there may be days.
"""

from falsedays.errors import TooMany
from falsedays.offices import MOST_DAYS, closing_in
from falsedays.walks import (BEGIN, after, after_any, closing_with, lasts_of, sets_ahead, sets_leading,
                             steps_on_board, steps_with_mark, table)


def days_with_tales(office, k, many, most):
    """The ascending list of all days of so many people of which each k neighbours, or all, have a tale.

    Raises TooMany(MOST_DAYS) if there are more than most.
    """
    rows = table(office)
    days = []
    for marks, last in true_boards(office, rows, many, most):
        choices = steps_on_board(office, marks)
        goals = closing_with(office, last)
        days.extend([(steps, last) for steps in rows_with_tales(rows, choices, goals, k, most - len(days))])
    return sorted(days)


def check_most(found, most):
    """Raises TooMany if more than most were found."""
    if len(found) > most:
        raise TooMany(MOST_DAYS)


def true_boards(office, rows, many, most):
    """The list of the boards of true days of so many people, at most so many."""
    goods = closing_in(office, many)
    by_mark = [steps_with_mark(office, mark) for mark in range(office.sizes[2])]
    begun = [((), BEGIN)]
    for left in reversed(range(many)):
        longer = []
        for marks, group in begun:
            for mark, steps in enumerate(by_mark):
                goals = after_any(rows, group, steps)
                if goals & goods[left]:
                    longer.append((marks + (mark,), goals))
        check_most(longer, most)
        begun = longer
    boards = [(marks, last) for marks, group in begun for last in lasts_of(office, group)]
    check_most(boards, most)
    return boards


def rows_with_tales(rows, choices, goals, k, most):
    """The list of the rows of steps, one of each choice, with a tale for each k neighbours."""
    width = min(k, len(choices))
    ahead = sets_ahead(rows, choices)
    leading_on = sets_leading(rows, choices, goals)
    begun = [((), (BEGIN,))]
    for place, steps in enumerate(choices):
        ways = {}
        longer = []
        for walked, groups in begun:
            if groups not in ways:
                ways[groups] = [(step, gone_on(rows, groups, step, ahead[place + 1], width)) for step in steps
                                if after(rows, groups[0], step) & leading_on[place + 1]]
            for step, further in ways[groups]:
                longer.append((walked + (step,), further))
        check_most(longer, most)
        begun = longer
    return [walked for walked, _ in begun]


def gone_on(rows, groups, step, begin, width):
    """The sets of the neighbours under way behind a step, those that came first ahead, with those that begin there."""
    further = [after(rows, group, step) for group in groups] + [begin]
    if len(further) > width:
        further = further[1:]
    return tuple(further)
