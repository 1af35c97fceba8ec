"""Offices and their days: who is served how, and which days are true."""

from falsedays.errors import BadOffice, NoDay, NoNumber, TooMany
from falsedays.kinds import all_fit, are_between, is_between, is_lot_below, is_rising_fit, is_tuple_of
from falsedays.walks import BEGIN, behind, closing_ever, closing_with, lasts_of, table, ways_on

MOST_SIZE = 4
MOST_STANDINGS = 20
MOST_LISTED = 6
MOST_PEOPLE = 200
MOST_DAYS = 2000


class Office:
    """An office: how many slips, answers and marks there are, its moves and its closings."""

    def __init__(self, sizes, moves, closings):
        if not are_sizes(sizes):
            raise BadOffice("sizes")
        if not are_moves(sizes, moves):
            raise BadOffice("moves")
        if not are_closings(sizes, len(moves), closings):
            raise BadOffice("closings")
        self.sizes = sizes
        self.moves = moves
        self.closings = closings

    def __eq__(self, other):
        return (isinstance(other, Office) and self.sizes == other.sizes
                and self.moves == other.moves and self.closings == other.closings)


def made_office(sizes, moves, closings):
    """An office that comes of other ones: so its sizes are not bounded."""
    office = Office((1, 1, 1), ((),), ((),))
    office.sizes = sizes
    office.moves = moves
    office.closings = closings
    return office


def are_sizes(thing):
    """Whether a thing is a triple of integers that are sizes."""
    return is_tuple_of(thing, 3) and are_between(thing, 1, MOST_SIZE)


def are_moves(sizes, thing):
    """Whether a thing is a tuple with the moves of each standing, in order."""
    if not isinstance(thing, tuple) or not 1 <= len(thing) <= MOST_STANDINGS:
        return False
    bounds = sizes + (len(thing),)
    return all([is_rising_fit(row, bounds) for row in thing])


def are_closings(sizes, standings, thing):
    """Whether a thing is a tuple with the last marks of each standing, in order."""
    return is_tuple_of(thing, standings) and all([is_lot_below(row, sizes[2]) for row in thing])


def is_mark(office, thing):
    """Whether a thing is a mark of the office."""
    return is_between(thing, 0, office.sizes[2] - 1)


def is_day(office, thing):
    """Whether a thing is a day of the office."""
    return is_tuple_of(thing, 2) and all_fit(thing[0], office.sizes) and is_mark(office, thing[1])


def is_board(office, thing):
    """Whether a thing is a board of the office."""
    return is_tuple_of(thing, 2) and are_between(thing[0], 0, office.sizes[2] - 1) and is_mark(office, thing[1])


def are_slips(office, thing):
    """Whether a thing is a tuple of slips of the office."""
    return are_between(thing, 0, office.sizes[0] - 1)


def notes(office, day):
    """The tuple of the notes of a day."""
    if not is_day(office, day):
        raise NoDay()
    return tuple([(slip, answer) for slip, answer, _ in day[0]])


def board(office, day):
    """The board of a day: the marks of its steps, and the last one."""
    if not is_day(office, day):
        raise NoDay()
    return tuple([mark for _, _, mark in day[0]]), day[1]


def is_true(office, thing):
    """Whether a thing is a true day of the office."""
    if not is_day(office, thing):
        return False
    steps, last = thing
    return bool(behind(table(office), steps) & closing_with(office, last))


def number_of_days(office, many):
    """The number of all days of so many people, true and false ones."""
    slips, answers, marks = office.sizes
    days = marks
    for _ in range(many):
        days = days * slips * answers * marks
    return days


def true_days(office, many):
    """The ascending list of all true days of so many people."""
    if not is_between(many, 0, MOST_LISTED):
        raise NoNumber()
    rows = table(office)
    goods = closing_in(office, many)
    begun = [((), BEGIN)]
    for left in reversed(range(many)):
        begun = one_more(rows, begun, goods[left])
        # Each begin that is kept leads on to a true day of its own, so there are as many at least.
        if len(begun) > MOST_DAYS:
            raise TooMany(MOST_DAYS)
    days = [(steps, last) for steps, group in begun for last in lasts_of(office, group)]
    if len(days) > MOST_DAYS:
        raise TooMany(MOST_DAYS)
    return days


def one_more(rows, begun, good):
    """Begins of days, each with its set, with one more step each, as far as they lead to a good standing."""
    ways = {}
    longer = []
    for steps, group in begun:
        if group not in ways:
            ways[group] = [(step, goals) for step, goals in ways_on(rows, group) if goals & good]
        for step, goals in ways[group]:
            longer.append((steps + (step,), goals))
    return longer


def closing_in(office, many):
    """For each number up to many the set of the standings that may close behind so many steps."""
    goods = [closing_ever(office)]
    for _ in range(many):
        good = 0
        for standing, moves in enumerate(office.moves):
            if first_move(moves, goods[-1]) is not None:
                good = good | (1 << standing)
        goods.append(good)
    return goods


def first_move(moves, good):
    """The first of some moves that leads to a good standing, or None."""
    for move in moves:
        if (good >> move[3]) & 1:
            return move
    return None


def some_true(office, many):
    """A true day of so many people, or None."""
    if not is_between(many, 0, MOST_PEOPLE):
        raise NoNumber()
    goods = closing_in(office, many)
    if not goods[many] & BEGIN:
        return None
    standing = 0
    steps = []
    for left in reversed(range(many)):
        slip, answer, mark, standing = first_move(office.moves[standing], goods[left])
        steps.append((slip, answer, mark))
    return tuple(steps), office.closings[standing][0]
