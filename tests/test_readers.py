"""2.1: the reader of an office, and where it stands."""

import unittest
from itertools import product

from falsedays.errors import NoSteps, TooMany
from falsedays.offices import Office
from falsedays.readers import reader, stand
from tests.helpers import (FORKED, HUNG_UP, LOAF, NEVER, NOBODY, SIXTY, SIXTY_ONE, all_steps, odd_things, slow_behind,
                           slow_is_steps, small_offices, twisted)


def slow_reader(office):
    """The reader's sets by the words of 2.1."""
    sets = [{0}]
    rows = []
    for here in sets:
        row = []
        for step in all_steps(office):
            goal = {move[3] for at in here for move in office.moves[at] if move[:3] == step}
            if goal:
                if goal not in sets:
                    sets.append(goal)
                row.append(step + (sets.index(goal),))
        rows.append(tuple(row))
    return tuple(rows), tuple(tuple(sorted({m for at in here for m in office.closings[at]})) for here in sets)


class ReaderTest(unittest.TestCase):
    def test_e03(self):
        self.assertEqual(reader(LOAF), ((((0, 1, 0, 0), (1, 0, 0, 1)), ((0, 1, 0, 1), (1, 1, 0, 1))), ((0,), (0,))))

    def test_sets_of_two(self):
        self.assertEqual(reader(Office((1, 1, 2), (((0, 0, 0, 0), (0, 0, 0, 1)), ((0, 0, 1, 1),)), ((1,), (0,)))),
                         ((((0, 0, 0, 1),), ((0, 0, 0, 1), (0, 0, 1, 2)), ((0, 0, 1, 2),)), ((1,), (0, 1), (0,))))

    def test_numbers_by_steps_not_by_standings(self):
        office = Office((2, 1, 1), (((0, 0, 0, 2), (1, 0, 0, 1)), (), ()), ((), (0,), ()))
        self.assertEqual(reader(office), ((((0, 0, 0, 1), (1, 0, 0, 2)), (), ()), ((), (), (0,))))

    def test_sets_that_lead_nowhere_are_numbered(self):
        self.assertEqual(reader(NEVER), ((((0, 0, 0, 0), (1, 0, 0, 0)),), ((),)))
        self.assertEqual(reader(NOBODY), (((),), ((0,),)))

    def test_standings_that_nothing_leads_to(self):
        self.assertEqual(reader(Office((1, 1, 1), ((), ((0, 0, 0, 0),)), ((0,), ()))), (((),), ((0,),)))

    def test_many_offices(self):
        for office in [LOAF, HUNG_UP, FORKED, SIXTY] + small_offices(200, 4, 4):
            self.assertEqual(reader(office), slow_reader(office))
            self.assertEqual(reader(office), reader(office))

    def test_kinds(self):
        moves, closings = reader(FORKED)
        self.assertIsInstance(reader(FORKED), tuple)
        for part in (moves, closings) + moves + closings:
            self.assertIsInstance(part, tuple)

    def test_just_60(self):
        self.assertEqual(len(reader(SIXTY)[0]), 60)
        self.assertEqual(stand(SIXTY, ((3, 2, 2),)), 59)

    def test_more_than_60(self):
        for call in (lambda: reader(SIXTY_ONE), lambda: stand(SIXTY_ONE, ())):
            with self.assertRaises(TooMany) as caught:
                call()
            self.assertEqual(caught.exception.most, 60)

    def test_far_more_than_60(self):
        # Which comer was the last but 18 with slip 1: 2 ** 19 sets.
        moves = [((0, 0, 0, 0), (1, 0, 0, 0), (1, 0, 0, 1))]
        moves += [((0, 0, 0, at + 1), (1, 0, 0, at + 1)) for at in range(1, 19)] + [()]
        self.assertRaises(TooMany, reader, Office((2, 1, 1), tuple(moves), ((),) * 19 + ((0,),)))


class StandTest(unittest.TestCase):
    def test_stand(self):
        self.assertEqual(stand(LOAF, ()), 0)
        self.assertEqual(stand(LOAF, ((0, 1, 0),)), 0)
        self.assertEqual(stand(LOAF, ((0, 1, 0), (1, 0, 0))), 1)
        self.assertEqual(stand(LOAF, ((0, 0, 0),)), -1)
        self.assertEqual(stand(LOAF, ((0, 0, 0), (0, 1, 0))), -1)
        self.assertEqual(stand(LOAF, ((1, 0, 0),) + ((1, 1, 0),) * 199), 1)
        self.assertEqual(stand(NOBODY, ((0, 0, 0),)), -1)

    def test_many_offices(self):
        for office in [LOAF, FORKED] + small_offices(40, 5, 4):
            sets = {}
            for many in range(4):
                for steps in product(all_steps(office)[:4], repeat=many):
                    here = frozenset(slow_behind(office, steps))
                    number = stand(office, steps)
                    self.assertEqual(number == -1, not here)
                    self.assertEqual(sets.setdefault(here, number), number)
            self.assertEqual(len(set(sets.values())), len(sets))

    def test_no_steps(self):
        for office in (LOAF, SIXTY_ONE):
            for thing in odd_things() + [[(0, 0, 0)], ((0, 0),), ((0, 4, 0),), ((0, 0, 0), (0, 0, 4)), (0, 0, 0),
                                         ((0, 0, False),), ([0, 0, 0],), (((0, 0, 0),), 0), ((-1, 0, 0),)]:
                self.assertRaises(NoSteps, stand, office, thing)
            for thing in odd_things():
                self.assertRaises(NoSteps, stand, office, (thing,))
                self.assertRaises(NoSteps, stand, office, ((0, 0, 0), thing))
                self.assertRaises(NoSteps, stand, office, ((0, 0, thing),))

    def test_twisted(self):
        for thing in twisted(((0, 1, 0), (1, 0, 0))):
            if slow_is_steps(LOAF, thing):
                self.assertIsInstance(stand(LOAF, thing), int)
            else:
                self.assertRaises(NoSteps, stand, LOAF, thing)


if __name__ == "__main__":
    unittest.main()
