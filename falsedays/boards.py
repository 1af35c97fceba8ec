"""What the true days of one board go through."""

from falsedays.walks import after, closing_with, sets_ahead, sets_leading, steps_on_board, table


class BoardSets:
    """The sets of standings ahead of each place of a board, and behind the last one.

    ahead: those that steps with the marks ahead of the place lead to.
    leading_on: those from which steps with the marks from the place on lead to the last mark.
    """

    def __init__(self, office, the_board):
        marks, last = the_board
        choices = steps_on_board(office, marks)
        self.rows = table(office)
        self.ahead = sets_ahead(self.rows, choices)
        self.leading_on = sets_leading(self.rows, choices, closing_with(office, last))

    def is_possible(self, place, step):
        """Whether some true day of the board has a step, with the board's mark, at a place."""
        return bool(after(self.rows, self.ahead[place], step) & self.leading_on[place + 1])
