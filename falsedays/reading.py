"""Reading of offices and days from texts."""

from falsedays.errors import NoDay
from falsedays.offices import Office, is_day
from falsedays.wording import numbers_in, read_lines


class OfficeLines:
    """The lines of an office, as far as they were taken."""

    def __init__(self):
        self.sizes = None
        self.moves = []
        self.closings = []

    def takes(self, line):
        """Whether the line can stand here. If so it is taken."""
        words = line.split(" ")
        numbers = numbers_in(words[1:])
        if numbers is None:
            return False
        if self.sizes is None:
            return self.takes_sizes(words[0], numbers)
        # A standing is closed by its last marks.
        if len(self.moves) == len(self.closings):
            return self.takes_standing(words[0], numbers)
        return self.takes_rest(words[0], numbers)

    def takes_sizes(self, word, numbers):
        """Whether this is the first line."""
        if word != "office" or len(numbers) != 3:
            return False
        self.sizes = numbers
        return True

    def takes_standing(self, word, numbers):
        """Whether this begins the next standing."""
        if word != "at" or numbers != (len(self.moves),):
            return False
        self.moves.append(())
        return True

    def takes_rest(self, word, numbers):
        """Whether this is a move or the last marks of a standing."""
        if word == "move" and len(numbers) == 4:
            self.moves[-1] = self.moves[-1] + (numbers,)
            return True
        if word == "closes":
            self.closings.append(numbers)
            return True
        return False

    def is_whole(self):
        """Whether nothing is lacking."""
        return self.sizes is not None and len(self.moves) == len(self.closings)


class DayLines:
    """The lines of a day, as far as they were taken."""

    def __init__(self):
        self.steps = []
        self.last = None

    def takes(self, line):
        """Whether the line can stand here. If so it is taken."""
        words = line.split(" ")
        numbers = numbers_in(words[1:])
        if numbers is None or self.last is not None:
            return False
        if words[0] == "step" and len(numbers) == 3:
            self.steps.append(numbers)
            return True
        if words[0] == "last" and len(numbers) == 1:
            self.last = numbers[0]
            return True
        return False

    def is_whole(self):
        """Whether nothing is lacking."""
        return self.last is not None


def read_office(text):
    """The office of a text."""
    lines = OfficeLines()
    read_lines(text, lines)
    return Office(lines.sizes, tuple(lines.moves), tuple(lines.closings))


def read_day(office, text):
    """The day of an office that a text tells."""
    lines = DayLines()
    read_lines(text, lines)
    day = (tuple(lines.steps), lines.last)
    if not is_day(office, day):
        raise NoDay()
    return day
