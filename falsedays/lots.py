"""Days of which each of some lots has a tale.

They are gone through place by place. A state has for each lot the set of standings to which
its tales may have come: those of a lot go by the day's own step at a place of the lot, and
elsewhere by any step with its mark. A begin is kept only if some day goes on from it, so no
more are kept than there may be days.
"""

from falsedays.errors import TooMany
from falsedays.offices import MOST_DAYS, closing_in
from falsedays.walks import BEGIN, after, closing_with, mark_table, table, ways_on


class LotWalks:
    """The states of days of so many people, and the steps that lead from them to a day."""

    def __init__(self, office, many, lots):
        self.sizes = office.sizes
        self.many = many
        self.lots = lots
        self.rows = table(office)
        self.by_mark = mark_table(self.rows)
        # For each place, and behind the last one, the standings from which so many steps lead to a closing.
        self.goods = closing_in(office, many)[::-1]
        self.closing = [closing_with(office, last) for last in range(office.sizes[2])]
        self.begin = tuple([BEGIN & self.goods[0] for _ in lots])
        self.leading = {}

    def steps_from(self, place, state):
        """The ascending list of the steps that may lead on from a state."""
        for lot, group in zip(self.lots, state):
            if place in lot:
                return [step for step, _ in ways_on(self.rows, group)]
        slips, answers, marks = self.sizes
        alive = [mark for mark in range(marks) if 0 not in self.behind_step(place, state, (0, 0, mark))]
        return [(slip, answer, mark) for slip in range(slips) for answer in range(answers) for mark in alive]

    def behind_step(self, place, state, step):
        """The state behind a step. Where a set of it is empty a lot sees the day."""
        good = self.goods[place + 1]
        further = []
        for lot, group in zip(self.lots, state):
            if place in lot:
                further.append(after(self.rows, group, step) & good)
            else:
                further.append(after(self.by_mark, group, step[2]) & good)
        return tuple(further)

    def lasts(self, state):
        """The ascending list of the last marks with which a tale of each lot may close."""
        return [last for last, closing in enumerate(self.closing) if all([group & closing for group in state])]

    def leads_on(self, place, state):
        """Whether some day goes on from a state."""
        if (place, state) not in self.leading:
            self.leading[(place, state)] = self.is_leading(place, state)
        return self.leading[(place, state)]

    def is_leading(self, place, state):
        """Whether some day goes on from a state, found by going on."""
        if 0 in state:
            return False
        if place == self.many:
            return len(self.lasts(state)) > 0
        for step in self.steps_from(place, state):
            if self.leads_on(place + 1, self.behind_step(place, state, step)):
                return True
        return False

    def live_steps(self, place, state):
        """The ascending list of the steps that lead from a state to a day, each with the state behind it."""
        found = [(step, self.behind_step(place, state, step)) for step in self.steps_from(place, state)]
        return [(step, further) for step, further in found if self.leads_on(place + 1, further)]


def days_with_lot_tales(office, many, lots, most):
    """The ascending list of all days of so many people of which each of some lots has a tale.

    Raises TooMany(MOST_DAYS) if there are more than most.
    """
    walks = LotWalks(office, many, lots)
    begun = []
    if walks.leads_on(0, walks.begin):
        begun.append(((), walks.begin))
    for place in range(many):
        ways = {}
        longer = []
        for steps, state in begun:
            if state not in ways:
                ways[state] = walks.live_steps(place, state)
            for step, further in ways[state]:
                longer.append((steps + (step,), further))
            if len(longer) > most:
                raise TooMany(MOST_DAYS)
        begun = longer
    days = [(steps, last) for steps, state in begun for last in walks.lasts(state)]
    if len(days) > most:
        raise TooMany(MOST_DAYS)
    return days
