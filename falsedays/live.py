"""A live day: its steps one behind another, and what can be told of it under way."""

from falsedays.errors import NoLot, NoMark, NoStep, NothingDone
from falsedays.kinds import fits, is_lot_below
from falsedays.offices import is_mark
from falsedays.tales import told_choices
from falsedays.walks import BEGIN, after, behind, live_standings, sets_ahead, steps_on, table


class Live:
    """A day under way. Its steps are kept in one tuple, so all that was done is put back by putting that back."""

    def __init__(self, office):
        self._office = office
        self._steps = ()

    def step(self, slip, answer, mark):
        """One more person is served."""
        served = (slip, answer, mark)
        if not fits(served, self._office.sizes):
            raise NoStep()
        self._steps = self._steps + (served,)

    def so_far(self):
        """The tuple of the steps."""
        return self._steps

    def wrong(self):
        """The place of the first step with which these steps are the begin of no true day, or None."""
        rows = table(self._office)
        live = live_standings(self._office)
        group = BEGIN
        for place, step in enumerate(self._steps):
            group = after(rows, group, step)
            if not group & live:
                return place
        return None

    def sees_now(self, lot):
        """Whether no true day begins with these marks and, at the places of a lot, with these notes."""
        if not is_lot_below(lot, len(self._steps)):
            raise NoLot()
        choices = told_choices(self._office, self._steps, lot)
        return not sets_ahead(table(self._office), choices)[-1] & live_standings(self._office)

    def ways_on(self):
        """The ascending list of the steps that may come next, so that some true day begins so."""
        rows = table(self._office)
        return steps_on(rows, behind(rows, self._steps), live_standings(self._office))

    def closed(self, last):
        """The day of the steps and a last mark."""
        if not is_mark(self._office, last):
            raise NoMark()
        return self._steps, last

    def back(self):
        """Takes back the last step that is not taken back."""
        if not self._steps:
            raise NothingDone()
        self._steps = self._steps[:-1]

    def depth(self):
        """How many steps can be taken back."""
        return len(self._steps)

    def copy(self):
        """Another one that goes on apart."""
        other = Live(self._office)
        other._steps = self._steps
        return other

    def trying(self, action):
        """What an action gives that is done to this day; then all is as it was, also if it raises an error."""
        steps = self._steps
        try:
            return action(self)
        finally:
            self._steps = steps
