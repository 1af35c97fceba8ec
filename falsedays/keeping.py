"""What a clerk can keep back unseen, where the slips of people make one true day."""

from falsedays.errors import NoDay, NoNumber, NoSlips, NotSure, NoWorths
from falsedays.kinds import are_between, is_between, is_tuple_of
from falsedays.offices import MOST_DAYS, MOST_LISTED, are_slips, is_day
from falsedays.readers import reader
from falsedays.windows import days_with_tales

MOST_WORTH = 99
MOST_NEIGHBOURS = 4


def is_sure_reader(office, moves, closings):
    """Whether from each set each slip leads on by just one step, and each set closes with just one last mark."""
    slips = list(range(office.sizes[0]))
    return (all([[move[0] for move in row] == slips for row in moves])
            and all([len(lasts) == 1 for lasts in closings]))


def is_sure(office):
    """Whether an office is sure."""
    moves, closings = reader(office)
    return is_sure_reader(office, moves, closings)


def sure_reader(office):
    """The reader of an office. The moves of each set have each slip once, in order. Raises NotSure."""
    moves, closings = reader(office)
    if not is_sure_reader(office, moves, closings):
        raise NotSure()
    return moves, closings


def served_day(moves, closings, slips):
    """The true day of some slips, by a reader that is sure."""
    number = 0
    steps = []
    for slip in slips:
        _, answer, mark, number = moves[number][slip]
        steps.append((slip, answer, mark))
    return tuple(steps), closings[number][0]


def served(office, slips):
    """The true day of some slips."""
    moves, closings = sure_reader(office)
    if not are_slips(office, slips):
        raise NoSlips()
    return served_day(moves, closings, slips)


def check_worths(office, worths):
    """Raises NoWorths for what is no tuple with a worth for each answer."""
    if not is_tuple_of(worths, office.sizes[1]) or not are_between(worths, 0, MOST_WORTH):
        raise NoWorths()


def slips_of(day):
    """The list of the slips of a day."""
    return [slip for slip, _, _ in day[0]]


def worth_of(worths, day):
    """The sum of the worths of the answers of a day."""
    return sum([worths[answer] for _, answer, _ in day[0]])


def keeps(office, worths, day):
    """What a day keeps back."""
    moves, closings = sure_reader(office)
    check_worths(office, worths)
    if not is_day(office, day):
        raise NoDay()
    return worth_of(worths, served_day(moves, closings, slips_of(day))) - worth_of(worths, day)


def check_neighbours(k, many):
    """Raises NoNumber for what is no number of neighbours, or of people."""
    if not is_between(k, 1, MOST_NEIGHBOURS):
        raise NoNumber()
    if not is_between(many, 1, MOST_LISTED):
        raise NoNumber()


def most_kept(office, worths, k, many):
    """The most that a false day unseen by each k neighbours keeps back, and the least such day, or None."""
    moves, closings = sure_reader(office)
    check_worths(office, worths)
    check_neighbours(k, many)
    true_ones = 1
    for _ in range(many):
        true_ones = true_ones * office.sizes[0]
    best = None
    # All true days have tales, and each row of slips makes one.
    for day in days_with_tales(office, k, many, true_ones + MOST_DAYS):
        true_day = served_day(moves, closings, slips_of(day))
        kept = worth_of(worths, true_day) - worth_of(worths, day)
        if day != true_day and (best is None or kept > best[0]):
            best = kept, day
    return best


def unseen_days(office, k, many):
    """The ascending list of all days of so many people of which each k neighbours, or all, have a tale."""
    check_neighbours(k, many)
    return days_with_tales(office, k, many, MOST_DAYS)
