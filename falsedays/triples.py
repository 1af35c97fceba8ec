"""Triples (a, b, c) of numbers of a reader, c perhaps dead.

One day goes on from a, another one from b; c is where the first one would stand if it had
gone on as the other one does. A triple tells if with some last mark a and b close, and c
does not: then the day that is crossed out of both is false.
"""

from falsedays.pairs import rising_pairs, way_to
from falsedays.readers import DEAD


class Split:
    """The rests by which two true days go on from a pair, so that what is crossed of them is false."""

    def __init__(self, pair, rest, other_rest, last):
        self.pair = pair
        self.rest = rest
        self.other_rest = other_rest
        self.last = last


def triple_goals(lookup, triple):
    """The triples to which steps with one mark lead from a triple, each with the two steps."""
    one, other, crossed = triple
    joint = lookup.joint(other, crossed)
    found = []
    for mark, goals in lookup.by_mark[one].items():
        for pair, other_step in joint.get(mark, {}).items():
            for goal, step in goals.items():
                found.append(((goal,) + pair, step, other_step))
    return found


def telling_last(lookup, triple):
    """The least last mark with which a triple tells, or None."""
    one, other, crossed = triple
    crossed_lasts = ()
    if crossed != DEAD:
        crossed_lasts = lookup.closings[crossed]
    for last in lookup.closings[one]:
        if last in lookup.closings[other] and last not in crossed_lasts:
            return last
    return None


def telling_triple(lookup, start, met):
    """A triple that tells, come to from a start through such as were not met yet, or None."""
    queue = []
    if start not in met:
        met[start] = None
        queue.append(start)
    at = 0
    while at < len(queue):
        triple = queue[at]
        if telling_last(lookup, triple) is not None:
            return triple
        for goal, step, other_step in triple_goals(lookup, triple):
            # Where the last two are one they stay so, and never tell.
            if goal[1] != goal[2] and goal not in met:
                met[goal] = (triple, step, other_step)
                queue.append(goal)
        at += 1
    return None


def deepest_split(pairs):
    """A split of a pair that stands as deep as any that has one, or None."""
    met = {}
    for pair in reversed(rising_pairs(pairs.met, pairs.depths)):
        one, other = pair
        if one != other:
            triple = telling_triple(pairs.lookup, (one, other, one), met)
            if triple is not None:
                rest, other_rest = way_to(met, triple)
                return Split(pair, rest, other_rest, telling_last(pairs.lookup, triple))
    return None


def all_triples(lookup, level):
    """The ascending tuple of all triples that are come to from the pairs of a level."""
    queue = [(one, other, one) for one, other in level]
    met = {start: True for start in queue}
    at = 0
    while at < len(queue):
        triple = queue[at]
        for goal, _, _ in triple_goals(lookup, triple):
            if goal not in met:
                met[goal] = True
                queue.append(goal)
        at += 1
    return tuple(sorted(queue))
