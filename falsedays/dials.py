"""Sets of states of some dials, each of which shows a number below its size.

A state has the number that its dials make together, the last one going up by ones. A set
of states is an integer with a bit for each of them: so a deed is done to all at once,
however many ways have led to them.
"""


class Dials:
    """Some dials, told by their sizes."""

    def __init__(self, sizes):
        self.sizes = sizes
        self.weights = [1]
        for size in reversed(sizes[1:]):
            self.weights.append(self.weights[-1] * size)
        self.weights = self.weights[::-1]
        self.many = self.weights[0] * sizes[0]
        self.zeros = [self.showing_zero(dial) for dial in range(len(sizes))]

    def showing_zero(self, dial):
        """The set of all states in which a dial shows 0."""
        weight = self.weights[dial]
        # One run of ones in each turn of the dial: the quotient has a one at the begin of each turn.
        turns = ((1 << self.many) - 1) // ((1 << (weight * self.sizes[dial])) - 1)
        return turns * ((1 << weight) - 1)

    def showing(self, group, dial, number):
        """Those of a set in which a dial shows a number."""
        return group & (self.zeros[dial] << (self.weights[dial] * number))

    def put(self, group, dial, number):
        """The set that comes of a set if a dial is put to a number."""
        weight = self.weights[dial]
        found = 0
        for shown in range(self.sizes[dial]):
            found = found | (self.showing(group, dial, shown) >> (weight * shown))
        return found << (weight * number)

    def turned(self, group, dial, number):
        """The set that comes of a set if a dial is turned on by a number, and begins at 0 again behind its last one."""
        weight = self.weights[dial]
        size = self.sizes[dial]
        found = 0
        for shown in range(size):
            goal = (shown + number) % size
            found = found | (self.showing(group, dial, shown) >> (weight * shown) << (weight * goal))
        return found
