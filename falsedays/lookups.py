"""The reader of an office, laid out so that its moves are found by steps and by marks."""

from falsedays.readers import DEAD, reader, ways_of


def goals_by_mark(row):
    """For each mark a dict from the numbers to which steps with it lead, to the first such step."""
    found = {}
    for step, goal in row.items():
        found.setdefault(step[2], {}).setdefault(goal, step)
    return found


class Lookup:
    """The moves and the last marks of a reader. It raises TooMany as the reader does."""

    def __init__(self, office):
        moves, closings = reader(office)
        self.ways = ways_of(moves)
        self.by_mark = [goals_by_mark(row) for row in self.ways]
        self.closings = closings
        self.joint_rows = {}

    def joint(self, one, other):
        """For each mark a dict from the pairs to which one and the same step leads from two numbers, to such a step.

        The other number may be dead, and may become so.
        """
        if (one, other) not in self.joint_rows:
            found = {}
            for step, goal in self.ways[one].items():
                other_goal = DEAD
                if other != DEAD:
                    other_goal = self.ways[other].get(step, DEAD)
                found.setdefault(step[2], {}).setdefault((goal, other_goal), step)
            self.joint_rows[(one, other)] = found
        return self.joint_rows[(one, other)]
