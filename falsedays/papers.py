"""Judging of papers: levels of pairs, and triples none of which tells."""

from falsedays.kinds import is_between, is_rising, is_rising_fit, is_tuple_of
from falsedays.pairs import like_step_goals, two_step_goals
from falsedays.readers import DEAD
from falsedays.triples import telling_last, triple_goals


def has_levels(lookup, k, thing):
    """Whether a thing is a tuple of k ascending tuples of pairs of numbers."""
    bounds = (len(lookup.ways), len(lookup.ways))
    return is_tuple_of(thing, k) and all([is_rising_fit(level, bounds) for level in thing])


def has_triples(lookup, thing):
    """Whether a thing is an ascending tuple of triples of numbers, the third one perhaps -1."""
    if not isinstance(thing, tuple):
        return False
    return all([is_triple(lookup, triple) for triple in thing]) and is_rising(thing)


def is_triple(lookup, thing):
    """Whether a thing is a triple of numbers, the third one perhaps -1."""
    most = len(lookup.ways) - 1
    if not is_tuple_of(thing, 3):
        return False
    one, other, crossed = thing
    return is_between(one, 0, most) and is_between(other, 0, most) and is_between(crossed, DEAD, most)


def levels_hold(lookup, levels):
    """Whether the first level is closed, and each further one has what comes of the one ahead."""
    first = {pair: True for pair in levels[0]}
    if (0, 0) not in first:
        return False
    for pair in levels[0]:
        if not all([goal in first for goal, _, _ in two_step_goals(lookup, pair)]):
            return False
    return all([leads_into(lookup, level, further) for level, further in zip(levels, levels[1:])])


def leads_into(lookup, level, further):
    """Whether a further level has all pairs to which one and the same step leads from a level."""
    there = {pair: True for pair in further}
    for pair in level:
        if not all([goal in there for goal, _ in like_step_goals(lookup, pair)]):
            return False
    return True


def triples_hold(lookup, level, triples):
    """Whether the triples have all that come of the last level, and none of them tells."""
    there = {triple: True for triple in triples}
    if not all([(one, other, one) in there for one, other in level]):
        return False
    for triple in triples:
        if telling_last(lookup, triple) is not None:
            return False
        if not all([goal in there for goal, _, _ in triple_goals(lookup, triple)]):
            return False
    return True
