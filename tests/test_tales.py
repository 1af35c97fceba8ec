"""3.1 and 3.2: tales of lots, what is unseen, and which lots see a day."""

import random
import unittest
from itertools import combinations

from falsedays.errors import NoDay, NoLot, NoNumber, TooMany
from falsedays.offices import Office, is_true
from falsedays.tales import is_tale, least_tale, seeing, tale, unseen
from tests.helpers import (FORKED, HUNG_UP, LOAF, NEVER, NO_DAYS, NOBODY, SIXTY_ONE, all_days, echo_office, odd_things,
                           random_office, slow_board, slow_is_true, slow_tales, slow_true_days, slow_unseen,
                           small_offices, twisted)

BOTH = (((1, 0, 0), (1, 0, 0)), 0)
NO_LOTS = [(2,), (-1,), (0, 0), (1, 0), (0, 1, 2), [0], [], (True,), (False,), (0, True), ("0",), (None,), ((0,),),
           10 ** 39, 0, 1, range(1), "", (10 ** 39,)]


def some_days(rng, office, many):
    """A few days of so many people, true ones and others."""
    days = all_days(office, many)
    return rng.sample(days, min(12, len(days)))


def all_lots(many):
    return [lot for size in range(many + 1) for lot in combinations(range(many), size)]


class TaleTest(unittest.TestCase):
    def test_own_words(self):
        self.assertEqual(least_tale(LOAF, BOTH, (0,)), (((1, 0, 0), (0, 1, 0)), 0))
        self.assertEqual(least_tale(LOAF, BOTH, (1,)), (((0, 1, 0), (1, 0, 0)), 0))
        self.assertEqual(least_tale(LOAF, BOTH, ()), (((0, 1, 0), (0, 1, 0)), 0))
        self.assertIsNone(least_tale(LOAF, BOTH, (0, 1)))
        self.assertIsNone(tale(LOAF, BOTH, (0, 1)))

    def test_nobody(self):
        self.assertEqual(tale(NOBODY, ((), 0), ()), ((), 0))
        self.assertEqual(least_tale(NOBODY, ((), 0), ()), ((), 0))
        self.assertIs(is_tale(NOBODY, ((), 0), (), ((), 0)), True)
        self.assertIsNone(tale(NEVER, ((), 0), ()))
        self.assertIsNone(tale(NOBODY, (((0, 0, 0),), 0), ()))

    def test_against_all_true_days(self):
        rng = random.Random(6)
        for office in [LOAF, HUNG_UP, FORKED] + small_offices(40, 7):
            for many in range(4):
                true = slow_true_days(office, many)
                for day in some_days(rng, office, many):
                    for lot in all_lots(many):
                        tales = slow_tales(true, day, lot)
                        self.assertEqual(least_tale(office, day, lot), min(tales, default=None))
                        found = tale(office, day, lot)
                        self.assertTrue(found in tales or found is None and not tales)
                        for other in rng.sample(true, min(6, len(true))) + tales[:3]:
                            self.assertIs(is_tale(office, day, lot, other), other in tales)

    def test_is_tale_of_false_days(self):
        self.assertIs(is_tale(LOAF, BOTH, (0, 1), BOTH), False)
        self.assertIs(is_tale(LOAF, BOTH, (), BOTH), False)
        self.assertIs(is_tale(HUNG_UP, (((1, 0, 1),), 0), (), (((0, 0, 0),), 0)), False)
        # Another last mark, or another number of people, is another board.
        office = Office((1, 1, 2), (((0, 0, 0, 0),),), ((0, 1),))
        self.assertIs(is_tale(office, ((), 0), (), ((), 1)), False)
        self.assertIs(is_tale(office, ((), 0), (), ((), 0)), True)
        self.assertIs(is_tale(office, ((), 0), (), (((0, 0, 0),), 0)), False)
        self.assertIs(is_tale(office, (((0, 0, 0),), 0), (0,), ((), 0)), False)

    def test_is_tale_of_anything(self):
        right = (((1, 0, 0), (0, 1, 0)), 0)
        self.assertIs(is_tale(LOAF, BOTH, (0,), right), True)
        for thing in odd_things():
            self.assertIs(is_tale(LOAF, BOTH, (0,), thing), False)
            self.assertIs(is_tale(SIXTY_ONE, BOTH, (0,), thing), False)
            self.assertIs(is_tale(LOAF, BOTH, (0,), (right[0], thing)), False)
        for thing in twisted(right):
            good = slow_is_true(LOAF, thing) and slow_board(thing) == slow_board(BOTH) and thing[0][0] == BOTH[0][0]
            self.assertIs(is_tale(LOAF, BOTH, (0,), thing), good)

    def test_wrong_days_and_lots(self):
        for call in (tale, least_tale, lambda office, day, lot: is_tale(office, day, lot, BOTH)):
            for thing in odd_things() + NO_DAYS:
                self.assertRaises(NoDay, call, LOAF, thing, ())
                self.assertRaises(NoDay, call, LOAF, thing, thing)
                self.assertRaises(NoDay, call, SIXTY_ONE, (thing, 0), [0])
            for thing in odd_things() + NO_LOTS:
                self.assertRaises(NoLot, call, LOAF, BOTH, thing)
            for thing in odd_things():
                self.assertRaises(NoLot, call, LOAF, BOTH, (0, thing))
            self.assertRaises(NoLot, call, LOAF, ((), 0), (0,))

    def test_long_days(self):
        office = echo_office(3)
        steps = ((0, 0, 0), (1, 0, 0), (1, 0, 0), (0, 0, 0), (1, 1, 0), (0, 1, 0))
        false = (((1, 0, 0),) * 200, 0)
        for lot in [(0,), (0, 1, 2), (10, 11, 12), (0, 100, 199), ()]:
            found = least_tale(office, false, lot)
            self.assertTrue(slow_is_true(office, found))
            self.assertTrue(is_tale(office, false, lot, found))
            self.assertTrue(all(found[0][at] == false[0][at] for at in lot))
        self.assertIsNone(least_tale(office, false, (10, 13)))
        self.assertIsNone(least_tale(office, false, tuple(range(200))))
        self.assertIs(is_true(office, (steps, 0)), True)
        self.assertEqual(tale(office, (steps, 0), tuple(range(6))), (steps, 0))

    def test_no_bound_of_the_reader(self):
        day = (((3, 3, 3),), 0)
        self.assertIsNone(tale(SIXTY_ONE, day, (0,)))
        self.assertEqual(least_tale(SIXTY_ONE, day, ()), (((0, 0, 3),), 0))
        self.assertIs(unseen(SIXTY_ONE, day, 1), False)
        self.assertEqual(seeing(SIXTY_ONE, day), [(0,)])
        rng = random.Random(8)
        office = random_office(rng, (2, 2, 2), 20, 0.5)
        day = (tuple((rng.randrange(2), rng.randrange(2), rng.randrange(2)) for _ in range(200)), 0)
        found = least_tale(office, day, (3, 4, 150))
        self.assertTrue(found is None or slow_is_true(office, found))


class UnseenTest(unittest.TestCase):
    def test_e04(self):
        self.assertIs(unseen(LOAF, BOTH, 1), True)
        self.assertIs(unseen(LOAF, BOTH, 2), False)

    def test_against_all_true_days(self):
        rng = random.Random(9)
        for office in [LOAF, HUNG_UP, FORKED, NEVER, NOBODY] + small_offices(60, 10):
            for many in range(4):
                true = slow_true_days(office, many)
                for day in some_days(rng, office, many):
                    for k in (1, 2, 3, 4, 20):
                        self.assertIs(unseen(office, day, k), slow_unseen(true, day, k))

    def test_nobody_and_fewer_people(self):
        self.assertIs(unseen(NEVER, ((), 0), 1), False)
        self.assertIs(unseen(NOBODY, ((), 0), 1), False)
        for k in range(2, 21):
            self.assertIs(unseen(LOAF, BOTH, k), False)

    def test_far_apart(self):
        # Both want the loaf at the ends of a long row, and both get it.
        for between in (0, 5, 18, 19, 198):
            day = (((1, 0, 0),) + ((0, 1, 0),) * between + ((1, 0, 0),), 0)
            for k in (1, 2, 19, 20):
                self.assertIs(unseen(LOAF, day, k), k <= between + 1)

    def test_echo(self):
        steps = ((1, 0, 0), (1, 1, 0), (0, 0, 0))
        self.assertIs(unseen(echo_office(1), (steps, 0), 1), True)
        self.assertIs(unseen(echo_office(1), (steps, 0), 2), False)

    def test_all_windows_count(self):
        # Only the last two see that both got the loaf.
        for many in range(2, 8):
            steps = ((0, 1, 0),) * (many - 2) + ((1, 0, 0), (1, 0, 0))
            self.assertIs(unseen(LOAF, (steps, 0), 2), False)
            self.assertIs(unseen(LOAF, (steps[::-1], 0), 2), False)

    def test_wrong(self):
        for thing in odd_things() + NO_DAYS:
            self.assertRaises(NoDay, unseen, LOAF, thing, 1)
            self.assertRaises(NoDay, unseen, LOAF, thing, thing)
        for k in odd_things() + [0, 21, 200, "1", (1,)]:
            self.assertRaises(NoNumber, unseen, LOAF, BOTH, k)
            self.assertRaises(NoNumber, unseen, SIXTY_ONE, BOTH, k)


class SeeingTest(unittest.TestCase):
    def test_e05(self):
        self.assertEqual(seeing(LOAF, BOTH), [(0, 1)])

    def test_small(self):
        self.assertEqual(seeing(LOAF, (((1, 0, 0), (1, 1, 0)), 0)), [])
        self.assertEqual(seeing(LOAF, (((0, 0, 0), (1, 0, 0)), 0)), [(0,)])
        self.assertEqual(seeing(LOAF, (((1, 0, 0),) * 3, 0)), [(0, 1), (0, 2), (1, 2)])
        self.assertEqual(seeing(HUNG_UP, (((0, 0, 1), (0, 0, 0)), 0)), [(0,)])
        self.assertEqual(seeing(HUNG_UP, (((0, 0, 1), (0, 0, 0)), 1)), [()])
        self.assertEqual(seeing(NEVER, ((), 0)), [()])
        self.assertEqual(seeing(NOBODY, ((), 0)), [])

    def test_ascending_as_tuples_not_by_size(self):
        # The first two part, or the third one alone has what nobody can have.
        day = (((1, 0, 0), (1, 0, 0), (1, 0, 0), (0, 0, 0)), 0)
        self.assertEqual(seeing(LOAF, day), [(0, 1), (0, 2), (1, 2), (3,)])
        day = (((0, 0, 0), (1, 0, 0), (1, 0, 0)), 0)
        self.assertEqual(seeing(LOAF, day), [(0,), (1, 2)])

    def test_against_all_true_days(self):
        rng = random.Random(11)
        for office in [LOAF, HUNG_UP, FORKED, NEVER] + small_offices(40, 12):
            for many in range(4):
                true = slow_true_days(office, many)
                for day in some_days(rng, office, many):
                    see = [lot for lot in all_lots(many) if not slow_tales(true, day, lot)]
                    least = [lot for lot in see if not any(set(other) < set(lot) for other in see)]
                    self.assertEqual(seeing(office, day), sorted(least))

    def test_eight_and_nine(self):
        day = (((1, 0, 0),) * 8, 0)
        self.assertEqual(seeing(LOAF, day), list(combinations(range(8), 2)))
        for day in [(((1, 0, 0),) * 9, 0), (((0, 1, 0),) * 9, 0), (((1, 0, 0),) * 200, 0)]:
            with self.assertRaises(TooMany) as caught:
                seeing(LOAF, day)
            self.assertEqual(caught.exception.most, 8)

    def test_wrong(self):
        for thing in odd_things() + NO_DAYS + [(((1, 0, 0),) * 9, 1), (((1, 0, 0),) * 9 + ((2, 0, 0),), 0)]:
            self.assertRaises(NoDay, seeing, LOAF, thing)

    def test_new_lists(self):
        seeing(LOAF, BOTH).clear()
        self.assertEqual(seeing(LOAF, BOTH), [(0, 1)])


if __name__ == "__main__":
    unittest.main()
