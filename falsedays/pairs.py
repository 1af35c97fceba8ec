"""Pairs of numbers of a reader: how far two days of one board may have gone.

A pair stands in the first level if two rows of steps with like marks lead to it, and in
each further level if one and the same step leads to it from a pair of the level ahead.
So a pair of level k may be come to by days whose last k - 1 steps are alike. Each level
is a part of the one ahead; what stands in all levels is called endless here.
"""

from falsedays.readers import DEAD


class Pairs:
    """The pairs of the first level, and how deep they stand.

    met: for each pair how it is met first, as (pair ahead, step, other step), None for the begin.
    depths: for each pair that is not endless the last level in which it stands.
    ahead: for each pair to which like steps lead, (pair, step) with the deepest pair ahead of it.
    """

    def __init__(self, lookup):
        self.lookup = lookup
        self.met = first_level(lookup)
        self.depths = depths_of(lookup, self.met)
        self.ahead = deepest_ahead(lookup, rising_pairs(self.met, self.depths))


def two_step_goals(lookup, pair):
    """The pairs to which two steps with one mark lead from a pair, each with such steps."""
    one, other = pair
    found = []
    for mark, goals in lookup.by_mark[one].items():
        for other_goal, other_step in lookup.by_mark[other].get(mark, {}).items():
            for goal, step in goals.items():
                found.append(((goal, other_goal), step, other_step))
    return found


def like_step_goals(lookup, pair):
    """The pairs, neither number dead, to which one and the same step leads from a pair, each with such a step."""
    found = []
    for goals in lookup.joint(pair[0], pair[1]).values():
        for goal, step in goals.items():
            if goal[1] != DEAD:
                found.append((goal, step))
    return found


def first_level(lookup):
    """The pairs that two rows of steps with like marks lead to, with how each is met first."""
    begin = (0, 0)
    met = {begin: None}
    queue = [begin]
    at = 0
    while at < len(queue):
        pair = queue[at]
        for goal, step, other_step in two_step_goals(lookup, pair):
            if goal not in met:
                met[goal] = (pair, step, other_step)
                queue.append(goal)
        at += 1
    return met


def depths_of(lookup, met):
    """The last level in which a pair stands, for each pair that does not stand in all.

    A pair leaves the levels one behind the last pair from which like steps lead to it.
    """
    waiting = {pair: 0 for pair in met}
    for pair in met:
        for goal, _ in like_step_goals(lookup, pair):
            waiting[goal] += 1
    layer = [pair for pair in met if waiting[pair] == 0]
    depths = {}
    depth = 1
    while layer:
        below = []
        for pair in layer:
            depths[pair] = depth
            for goal, _ in like_step_goals(lookup, pair):
                waiting[goal] -= 1
                if waiting[goal] == 0:
                    below.append(goal)
        layer = below
        depth += 1
    return depths


def rising_pairs(met, depths):
    """All pairs, those that stand deeper behind, the endless ones last."""
    # The depths were put in by rising depth.
    return list(depths) + [pair for pair in met if pair not in depths]


def deepest_ahead(lookup, rising):
    """For each pair the deepest one from which one and the same step leads to it, with the step."""
    ahead = {}
    for pair in rising:
        for goal, step in like_step_goals(lookup, pair):
            # A deeper pair comes later, and takes the place of the one that is here.
            ahead[goal] = (pair, step)
    return ahead


def stands_in(pairs, pair, level):
    """Whether a pair of the first level stands in another level."""
    return pair not in pairs.depths or pairs.depths[pair] >= level


def level_of(pairs, level):
    """The ascending tuple of the pairs of a level."""
    return tuple(sorted([pair for pair in pairs.met if stands_in(pairs, pair, level)]))


def lead_to(pairs, pair, many):
    """A pair and the tuple of so many steps that lead from it, for both alike, to a pair that stands deep enough."""
    steps = []
    for _ in range(many):
        pair, step = pairs.ahead[pair]
        steps.append(step)
    return pair, tuple(steps[::-1])


def turn_before(pairs, pair):
    """A pair, the steps that lead from it to itself, and those that lead from it to an endless pair."""
    steps = []
    places = {}
    while pair not in places:
        places[pair] = len(steps)
        pair, step = pairs.ahead[pair]
        steps.append(step)
    place = places[pair]
    return pair, tuple(steps[place:][::-1]), tuple(steps[:place][::-1])


def way_to(met, goal):
    """The two rows of steps by which a pair, or a triple, is met first, from where its search began."""
    steps = []
    other_steps = []
    while met[goal] is not None:
        goal, step, other_step = met[goal]
        steps.append(step)
        other_steps.append(other_step)
    return tuple(steps[::-1]), tuple(other_steps[::-1])
