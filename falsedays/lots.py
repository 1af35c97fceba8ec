"""Days of which each of some lots has a tale.

All true days of so many people are at hand: those of a board are the tales that there can be
for its days. A day is made place by place, and for each lot the tales that it still has are
kept. A begin is kept only if some day goes on from it, so no more are kept than there may be
days.
"""

from falsedays.errors import TooMany
from falsedays.offices import MOST_DAYS, number_of_days
from falsedays.walks import all_steps, steps_with_mark


class BoardTales:
    """The true days of a board, and the days of which each of some lots has one of them as its tale.

    Sets of these true days are kept as integers with a bit for each of them.
    having: for each place a dict from steps to the sets of the true days that have them there.
    choices: for each place the steps that a day may have there.
    order: the places in the order in which they are gone through.
    """

    def __init__(self, office, true_ones, lots, order):
        self.lots = lots
        self.order = order
        self.last = true_ones[0][1]
        self.having = [sets_by_step(true_ones, place) for place in range(len(order))]
        self.choices = [self.choices_at(office, place, true_ones[0][0][place][2]) for place in range(len(order))]
        self.begin = tuple([(1 << len(true_ones)) - 1 for _ in lots])
        self.leading = {}

    def choices_at(self, office, place, mark):
        """The list of the steps that a day may have at a place: any with the mark where no lot has the place."""
        if any([place in lot for lot in self.lots]):
            return list(self.having[place])
        return steps_with_mark(office, mark)

    def ways_on(self, at, state):
        """The list of the steps that leave each lot a tale, each with the state behind it."""
        place = self.order[at]
        found = []
        for step in self.choices[place]:
            there = self.having[place].get(step, 0)
            further = tuple([group & there if place in lot else group for lot, group in zip(self.lots, state)])
            if 0 not in further:
                found.append((step, further))
        return found

    def leads_on(self, at, state):
        """Whether some day goes on from a state."""
        if (at, state) not in self.leading:
            self.leading[(at, state)] = self.is_leading(at, state)
        return self.leading[(at, state)]

    def is_leading(self, at, state):
        """Whether some day goes on from a state, found by going on."""
        if at == len(self.order):
            return True
        for _, further in self.ways_on(at, state):
            if self.leads_on(at + 1, further):
                return True
        return False

    def days(self, most):
        """The list of the days of the board of which each lot has a tale. Raises TooMany for more than most."""
        begun = [((), self.begin)]
        for at in range(len(self.order)):
            longer = []
            for steps, state in begun:
                longer.extend([(steps + (step,), further) for step, further in self.ways_on(at, state)
                               if self.leads_on(at + 1, further)])
                if len(longer) > most:
                    raise TooMany(MOST_DAYS)
            begun = longer
        return [(self.by_places(steps), self.last) for steps, _ in begun]

    def by_places(self, steps):
        """Steps in the order in which they were gone through, brought into that of their places."""
        return tuple([step for _, step in sorted(list(zip(self.order, steps)))])


def sets_by_step(days, place):
    """For each step that some days have at a place the set of those that have it."""
    found = {}
    for number, (steps, _) in enumerate(days):
        found[steps[place]] = found.get(steps[place], 0) | (1 << number)
    return found


def days_by_board(days):
    """The list of the lists of the days of one board."""
    found = {}
    for steps, last in days:
        marks = tuple([mark for _, _, mark in steps])
        found.setdefault((marks, last), []).append((steps, last))
    return list(found.values())


def days_with_lot_tales(office, many, lots, true_ones):
    """The ascending list of all days of so many people of which each of some lots has a tale.

    Raises TooMany if more than MOST_DAYS of them are none of the true days, all of which are told.
    """
    most = MOST_DAYS + len(true_ones)
    if not lots:
        return all_days(office, many, most)
    order = those_of_most_lots_ahead(many, lots)
    days = []
    for board_days in days_by_board(true_ones):
        days.extend(BoardTales(office, board_days, lots, order).days(most - len(days)))
    return sorted(days)


def those_of_most_lots_ahead(many, lots):
    """The list of all places in an order in which lots that share places are at odds soon, if they are."""
    ranked = [(-len([lot for lot in lots if place in lot]), place) for place in range(many)]
    return [place for _, place in sorted(ranked)]


def all_days(office, many, most):
    """The ascending list of all days of so many people. Raises TooMany if there are more than most."""
    if number_of_days(office, many) > most:
        raise TooMany(MOST_DAYS)
    rows = [()]
    steps = all_steps(office)
    for _ in range(many):
        rows = [row + (step,) for row in rows for step in steps]
    return [(row, last) for row in rows for last in range(office.sizes[2])]
