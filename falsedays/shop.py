"""A shop in which an office is changed, move by move and mark by mark."""

from falsedays.errors import NoMark, NoMove, NoStanding, NoStep, NothingDone
from falsedays.kinds import fits, is_between
from falsedays.neighbours import least_k
from falsedays.offices import Office, is_mark


class Shop:
    """An office that is changed. Each change makes a new one; they are kept in one tuple, the one that holds last."""

    def __init__(self, office):
        self._offices = (office,)

    def put(self, standing, slip, answer, mark, goal):
        """Puts a move in at its place."""
        office = self.office()
        check_standing(office, standing)
        if not fits((slip, answer, mark), office.sizes):
            raise NoStep()
        check_standing(office, goal)
        row = tuple(sorted(office.moves[standing] + ((slip, answer, mark, goal),)))
        self._change(with_row(office.moves, standing, row), office.closings)

    def strike(self, standing, index):
        """Takes a move out."""
        office = self.office()
        check_standing(office, standing)
        row = office.moves[standing]
        if not is_between(index, 0, len(row) - 1):
            raise NoMove()
        self._change(with_row(office.moves, standing, row[:index] + row[index + 1:]), office.closings)

    def add(self):
        """Puts a standing without moves and closings behind."""
        office = self.office()
        self._change(office.moves + ((),), office.closings + ((),))

    def shuts(self, standing, mark):
        """Lets a standing close with a mark, too."""
        office = self.office()
        check_closing(office, standing, mark)
        row = tuple(sorted(office.closings[standing] + (mark,)))
        self._change(office.moves, with_row(office.closings, standing, row))

    def shuts_not(self, standing, mark):
        """Lets a standing close with a mark no more."""
        office = self.office()
        check_closing(office, standing, mark)
        row = office.closings[standing]
        if mark not in row:
            raise NoMark()
        self._change(office.moves, with_row(office.closings, standing, tuple([last for last in row if last != mark])))

    def _change(self, moves, closings):
        """Goes on with the office of these moves and closings. Raises BadOffice."""
        self._offices = self._offices + (Office(self.office().sizes, moves, closings),)

    def office(self):
        """The office as it is now."""
        return self._offices[-1]

    def least(self):
        """The least k that is enough for the office, or None."""
        return least_k(self.office())

    def back(self):
        """Takes back the last change that is not taken back."""
        if self.depth() == 0:
            raise NothingDone()
        self._offices = self._offices[:-1]

    def depth(self):
        """How many changes can be taken back."""
        return len(self._offices) - 1

    def copy(self):
        """Another one that goes on apart."""
        other = Shop(self.office())
        other._offices = self._offices
        return other

    def trying(self, action):
        """What an action gives that is done to this shop; then all is as it was, also if it raises an error."""
        offices = self._offices
        try:
            return action(self)
        finally:
            self._offices = offices


def check_standing(office, thing):
    """Raises NoStanding for what is no standing."""
    if not is_between(thing, 0, len(office.moves) - 1):
        raise NoStanding()


def check_closing(office, standing, mark):
    """Raises what is named for a standing and a mark."""
    check_standing(office, standing)
    if not is_mark(office, mark):
        raise NoMark()


def with_row(rows, standing, row):
    """The rows of all standings, with another one for one of them."""
    return rows[:standing] + (row,) + rows[standing + 1:]
