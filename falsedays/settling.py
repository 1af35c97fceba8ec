"""The search for a true day whose board settles the slip at a place.

It goes by a standing of the day and the set of standings of all that must be ruled out:
ahead of the place all days with these marks, behind it those that had another slip there.
The less there is to be ruled out, the better: so what was met with a part of a set need
not be gone on with. The sets are not those of the reader, and not bounded.
"""

from falsedays.walks import BEGIN, after_any, lasts_of, live_standings, standings_in, steps_with_mark, table


class Settling:
    """The states that were met: whether the place is behind, the standing of the day, and the set to be ruled out."""

    def __init__(self, office):
        self.rows = live_rows(office)
        self.any_slip = {}
        self.other_slip = {}
        for mark in range(office.sizes[2]):
            steps = steps_with_mark(office, mark)
            self.any_slip[mark] = goals_by_any(self.rows, steps)
            for slip in range(office.sizes[0]):
                others = [step for step in steps if step[0] != slip]
                self.other_slip[(slip, mark)] = goals_by_any(self.rows, others)
        begin = (False, 0, BEGIN)
        self.met = {begin: None}
        self.queue = [begin]
        self.groups = {(False, 0): [BEGIN]}

    def meet(self, state, ahead, step):
        """Notes a state to which a step leads from another one, unless one was met with no more to be ruled out."""
        is_behind, standing, group = state
        elders = self.groups.setdefault((is_behind, standing), [])
        if not any([elder & group == elder for elder in elders]):
            elders.append(group)
            self.met[state] = (ahead, step)
            self.queue.append(state)

    def go_on(self, state):
        """Meets all states to which steps lead from one."""
        is_behind, standing, group = state
        for step, goals in self.rows[standing].items():
            slip, _, mark = step
            ruled_out = joined_goals(self.any_slip[mark], group)
            others = joined_goals(self.other_slip[(slip, mark)], group)
            for goal in standings_in(goals):
                self.meet((is_behind, goal, ruled_out), state, step)
                if not is_behind:
                    self.meet((True, goal, others), state, step)

    def told(self, state):
        """The steps that lead to a state, and the place whose slip is settled."""
        steps = []
        after_place = 0
        while self.met[state] is not None:
            if state[0]:
                after_place += 1
            state, step = self.met[state]
            steps.append(step)
        return tuple(steps[::-1]), len(steps) - after_place


def live_rows(office):
    """The table of an office without what leads to no closing."""
    live = live_standings(office)
    return [{step: goals & live for step, goals in row.items() if goals & live} for row in table(office)]


def goals_by_any(rows, steps):
    """For each standing the set to which any of some steps lead from it."""
    return [after_any(rows, 1 << standing, steps) for standing in range(len(rows))]


def joined_goals(goals, group):
    """All that goals tell of the standings in a set, joined."""
    found = 0
    for standing in standings_in(group):
        found = found | goals[standing]
    return found


def telling_last(office, state):
    """A last mark with which a day may close behind its place and nothing that is to be ruled out, or None."""
    is_behind, standing, group = state
    if is_behind:
        ruled_out = lasts_of(office, group)
        for last in office.closings[standing]:
            if last not in ruled_out:
                return last
    return None


def first_settled(office):
    """A true day and a place whose slip its board settles, or None."""
    settling = Settling(office)
    at = 0
    while at < len(settling.queue):
        state = settling.queue[at]
        last = telling_last(office, state)
        if last is not None:
            steps, place = settling.told(state)
            return (steps, last), place
        settling.go_on(state)
        at += 1
    return None
