"""Webs of lots, and shapes: which false days they leave unseen, and when none is left."""

from falsedays.errors import NoNumber, NoShape, NoTree, NoWeb
from falsedays.kinds import is_between, is_lot_below
from falsedays.lots import days_by_board, days_with_lot_tales
from falsedays.offices import MOST_LISTED, true_days

MOST_SHAPED = 4
SHAPE_WIDTH = 6


def check_many(many):
    """Raises NoNumber for what is no number of people."""
    if not is_between(many, 1, MOST_LISTED):
        raise NoNumber()


def are_lots(many, thing):
    """Whether a thing is a tuple of lots of places below a number."""
    return isinstance(thing, tuple) and all([is_lot_below(lot, many) for lot in thing])


def is_web(many, thing):
    """Whether a thing is a web for so many people."""
    check_many(many)
    return are_lots(many, thing)


def is_tree(many, thing):
    """Whether a thing is a web for so many people, and a tree."""
    check_many(many)
    return are_lots(many, thing) and is_grown(thing)


def is_grown(lots):
    """Whether each lot has all places that it shares with elder ones in one and the same elder one.

    Lots are taken as sets of places here, so there are not many unlike ones.
    """
    elders = {}
    joined = 0
    for lot in lots:
        places = places_of(lot)
        shared = places & joined
        if elders and not any([shared & elder == shared for elder in elders]):
            return False
        elders[places] = True
        joined = joined | places
    return True


def places_of(lot):
    """The set of the places of a lot, an integer with a bit for each of them."""
    places = 0
    for place in lot:
        places = places | (1 << place)
    return places


def joined_lot(lots):
    """The lot of all places of some lots."""
    return tuple(sorted({place for lot in lots for place in lot}))


def widest(lots):
    """The ascending list of those of some lots that are not within another one, each once."""
    unlike = sorted(set(lots))
    return [lot for lot in unlike if not any([lot != other and holds_all(other, lot) for other in unlike])]


def holds_all(lot, other):
    """Whether a lot has all places of another one."""
    return places_of(lot) | places_of(other) == places_of(lot)


def web_false(office, many, web):
    """The least false day of so many people that no lot of a web sees, or None."""
    check_many(many)
    if not are_lots(many, web):
        raise NoWeb()
    return least_false(office, many, web)


def least_false(office, many, lots):
    """The least false day of so many people that no lot sees, or None."""
    true_ones = true_days(office, many)
    there = {day: True for day in true_ones}
    # A tale of a lot is one of each lot within it, too.
    for day in days_with_lot_tales(office, many, widest(lots), true_ones):
        if day not in there:
            return day
    return None


def exchanges(office, many, web):
    """Whether what true days have at the places of elder lots and of a lot goes together where it may."""
    check_many(many)
    if not are_lots(many, web):
        raise NoWeb()
    if not is_grown(web) or joined_lot(web) != tuple(range(many)):
        raise NoTree()
    boards = days_by_board(true_days(office, many))
    elder = ()
    for lot in web:
        # Where all places of a lot are elder ones one of the two days itself has all these notes.
        if not holds_all(elder, lot) and not all([goes_together(days, elder, lot) for days in boards]):
            return False
        elder = joined_lot((elder, lot))
    return True


def goes_together(days, elder, lot):
    """Whether each row at elder places and each at those of a lot, alike where both are, stand on a day.

    All days are of one board. Each row at the places of both is made of just one such couple: so they are counted.
    """
    shared = [place for place in lot if place in elder]
    both = joined_lot((elder, lot))
    elder_rows = {}
    lot_rows = {}
    for day in days:
        key = steps_at(day, shared)
        elder_rows.setdefault(key, {}).setdefault(steps_at(day, elder), True)
        lot_rows.setdefault(key, {}).setdefault(steps_at(day, lot), True)
    couples = sum([len(elder_rows[key]) * len(lot_rows[key]) for key in elder_rows])
    return couples == len({steps_at(day, both) for day in days})


def steps_at(day, places):
    """The tuple of the steps of a day at some places."""
    return tuple([day[0][place] for place in places])


def is_shape(thing):
    """Whether a thing is a shape."""
    return is_lot_below(thing, SHAPE_WIDTH) and 1 <= len(thing) <= MOST_SHAPED and thing[0] == 0


def shape_lots(shape, many):
    """The list of the lots of a shape for so many people."""
    return [tuple([place + begin for place in shape]) for begin in range(many - shape[-1])]


def shape_false(office, many, shape):
    """The least false day of so many people that no lot of a shape sees, there being one lot at least, or None."""
    check_many(many)
    if not is_shape(shape):
        raise NoShape()
    lots = shape_lots(shape, many)
    if not lots:
        # Too many true days are named as an error for any shape.
        true_days(office, many)
        return None
    return least_false(office, many, lots)
