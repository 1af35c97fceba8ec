"""What share of all days is true or unseen, how many slips can be shown, and the cheapest lot that sees a day."""

from itertools import combinations
from falsedays.errors import NoDay, NoPrices
from falsedays.kinds import are_between, is_tuple_of
from falsedays.keeping import unseen_days
from falsedays.offices import board, is_day, number_of_days, true_days
from falsedays.tales import holds_any, seeing

MOST_PRICE = 99


def shares(office, k, many):
    """The numbers of all days of so many people, of the true ones, and of false ones unseen by each k neighbours."""
    with_tales = len(unseen_days(office, k, many))
    true_ones = len(true_days(office, many))
    return number_of_days(office, many), true_ones, with_tales - true_ones


def most_proofs(office, many):
    """The greatest number of places whose slip can be shown on a true day, and the least such day, or None."""
    best = None
    for proved in proofs_of_days(office, many):
        if best is None or proved[0] > best[0]:
            best = proved
    return best


def least_proofs(office, many):
    """The least number of places whose slip can be shown on a true day, and the least such day, or None."""
    best = None
    for proved in proofs_of_days(office, many):
        if best is None or proved[0] < best[0]:
            best = proved
    return best


def proofs_of_days(office, many):
    """For each true day of so many people the number of places whose slip can be shown, and the day, by rising days."""
    days = true_days(office, many)
    boards = [board(office, day) for day in days]
    # All true days are here: so those of a board with an answer at a place tell which slips they have there.
    slips = {}
    for day, the_board in zip(days, boards):
        for place, (slip, answer, _) in enumerate(day[0]):
            slips.setdefault((the_board, place, answer), {}).setdefault(slip, True)
    found = []
    for day, the_board in zip(days, boards):
        shown = [place for place, (_, answer, _) in enumerate(day[0]) if len(slips[(the_board, place, answer)]) == 1]
        found.append((len(shown), day))
    return found


def cheapest_lot(office, day, prices):
    """The least price of a lot that sees a day, and the least such lot, or None."""
    if not is_day(office, day):
        raise NoDay()
    many = len(day[0])
    if not is_tuple_of(prices, many) or not are_between(prices, 0, MOST_PRICE):
        raise NoPrices()
    lots = seeing(office, day)
    best = None
    for size in range(many + 1):
        for lot in combinations(range(many), size):
            priced = sum([prices[place] for place in lot]), lot
            if holds_any(lot, lots) and (best is None or priced < best):
                best = priced
    return best
