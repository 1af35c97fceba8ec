"""Whether each k neighbours see every false day, and what shows it."""

from falsedays.errors import NoNumber
from falsedays.kinds import all_fit, is_between, is_tuple_of
from falsedays.lookups import Lookup
from falsedays.offices import board, is_mark, is_true
from falsedays.pairs import Pairs, lead_to, level_of, stands_in, turn_before, way_to
from falsedays.papers import has_levels, has_triples, levels_hold, triples_hold
from falsedays.readers import DEAD, number_behind
from falsedays.triples import all_triples, deepest_split

MOST_K = 200


def check_k(k):
    """Raises NoNumber for what is no number of neighbours."""
    if not is_between(k, 1, MOST_K):
        raise NoNumber()


def is_split_for(pairs, split, k):
    """Whether there is a split, and its pair may be come to by k - 1 like steps."""
    return split is not None and stands_in(pairs, split.pair, k)


def enough(office, k):
    """Whether no false day is unseen by each k neighbours."""
    check_k(k)
    pairs = Pairs(Lookup(office))
    return not is_split_for(pairs, deepest_split(pairs), k)


def least_k(office):
    """The least k that is enough, or None."""
    pairs = Pairs(Lookup(office))
    split = deepest_split(pairs)
    if split is None:
        return 1
    if split.pair not in pairs.depths:
        return None
    return pairs.depths[split.pair] + 1


def crossing(office, k):
    """A crossing for k, or None."""
    check_k(k)
    pairs = Pairs(Lookup(office))
    split = deepest_split(pairs)
    if not is_split_for(pairs, split, k):
        return None
    pair, lead = lead_to(pairs, split.pair, k - 1)
    one, other = way_to(pairs.met, pair)
    day = (one + lead + split.rest, split.last)
    other_day = (other + lead + split.other_rest, split.last)
    return day, other_day, len(one) + k - 1


def is_crossing(office, k, thing):
    """Whether a thing is a crossing for k."""
    check_k(k)
    if not is_tuple_of(thing, 3):
        return False
    one, other, place = thing
    if not are_two_true(office, one, other) or not is_between(place, k - 1, len(one[0])):
        return False
    begin = place - k + 1
    if one[0][begin:place] != other[0][begin:place]:
        return False
    return not is_true(office, (one[0][:place] + other[0][place:], other[1]))


def are_two_true(office, one, other):
    """Whether two things are true days of one board."""
    return is_true(office, one) and is_true(office, other) and board(office, one) == board(office, other)


def are_two_with_place(office, thing):
    """Whether a thing is a triple of two true days of one board and a place of them."""
    if not is_tuple_of(thing, 3):
        return False
    one, other, place = thing
    return are_two_true(office, one, other) and is_between(place, 0, len(one[0]) - 1)


def round_of(office):
    """A round, or None."""
    pairs = Pairs(Lookup(office))
    split = deepest_split(pairs)
    if split is None or split.pair in pairs.depths:
        return None
    pair, turn, lead = turn_before(pairs, split.pair)
    one, other = way_to(pairs.met, pair)
    return one, other, turn, lead, split.rest, split.other_rest, split.last


def is_round(office, thing):
    """Whether a thing is a round."""
    ways = Lookup(office).ways
    if not has_round_form(office, thing):
        return False
    one, other, turn, lead, rest, other_rest, last = thing
    if not comes_back(ways, one, turn) or not comes_back(ways, other, turn):
        return False
    return (is_true(office, (one + lead + rest, last)) and is_true(office, (other + lead + other_rest, last))
            and not is_true(office, (one + lead + other_rest, last)))


def has_round_form(office, thing):
    """Whether a thing has the parts of a round, with like marks where they must be."""
    if not is_tuple_of(thing, 7) or not all([all_fit(part, office.sizes) for part in thing[:6]]):
        return False
    one, other, turn, _, rest, other_rest, last = thing
    return (is_mark(office, last) and len(turn) > 0
            and marks_of(one) == marks_of(other) and marks_of(rest) == marks_of(other_rest))


def marks_of(steps):
    """The list of the marks of some steps."""
    return [mark for _, _, mark in steps]


def comes_back(ways, steps, turn):
    """Whether the reader stands behind some steps where it stands behind them and a turn, not dead."""
    number = number_behind(ways, 0, steps)
    return number != DEAD and number_behind(ways, number, turn) == number


def paper(office, k):
    """A paper for k, or None."""
    check_k(k)
    pairs = Pairs(Lookup(office))
    if is_split_for(pairs, deepest_split(pairs), k):
        return None
    levels = tuple([level_of(pairs, level) for level in range(1, k + 1)])
    return levels, all_triples(pairs.lookup, levels[-1])


def is_paper(office, k, thing):
    """Whether a thing is a paper for k."""
    check_k(k)
    lookup = Lookup(office)
    if not is_tuple_of(thing, 2):
        return False
    levels, triples = thing
    if not has_levels(lookup, k, levels) or not has_triples(lookup, triples):
        return False
    return levels_hold(lookup, levels) and triples_hold(lookup, levels[-1], triples)
