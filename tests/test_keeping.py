"""6.1 to 6.3: offices that are sure, what days keep back, and what is unseen."""

import random
import unittest
from itertools import product

from falsedays.errors import NoDay, NoNumber, NoSlips, NotSure, NoWorths, TooMany
from falsedays.keeping import is_sure, keeps, most_kept, served, unseen_days
from falsedays.offices import Office, is_true
from falsedays.tales import unseen
from tests.helpers import (FORKED, HUNG_UP, JUST_2000, JUST_2001, LOAF, NEVER, NO_DAYS, NOBODY, SIXTY, SIXTY_ONE,
                           all_days, echo_office, odd_things, slow_board, slow_is_sure, slow_is_true, slow_true_days,
                           slow_unseen, small_offices, twisted, wide_office)

BOTH = (((1, 0, 0), (1, 0, 0)), 0)
# One slip tells what the next one gets; of two standings each tells another slip, or both tell the same.
HALVES = Office((2, 2, 1), (((0, 0, 0, 0), (0, 0, 0, 1)), ((1, 1, 0, 0), (1, 1, 0, 1))), ((0,), (0,)))
TWINS = Office((2, 2, 1), (((0, 1, 0, 1), (0, 1, 0, 2), (1, 0, 0, 0)), ((0, 1, 0, 0), (1, 1, 0, 1)),
                           ((0, 1, 0, 0), (1, 1, 0, 2))), ((0,), (0,), (0,)))
# Both tell slip 0, but with unlike answers, marks or last marks.
UNLIKE = [Office((1, 2, 1), (((0, 0, 0, 0), (0, 0, 0, 1)), ((0, 1, 0, 0),)), ((0,), (0,))),
          Office((1, 1, 2), (((0, 0, 0, 0), (0, 0, 0, 1)), ((0, 0, 1, 0),)), ((0,), (0,))),
          Office((1, 1, 2), (((0, 0, 0, 0), (0, 0, 0, 1)), ((0, 0, 0, 0),)), ((0,), (1,)))]
# Just 2000 days of six people, 64 true ones among them, look true to each one alone.
ALL_2000 = Office((2, 3, 1), (((0, 0, 0, 1), (1, 0, 0, 1)), ((0, 0, 0, 2), (1, 1, 0, 1)), ((0, 2, 0, 1), (1, 2, 0, 0))),
                  ((0,),) * 3)


def sure_office(rng, sizes, standings):
    """An office that tells one answer for each slip, some of its standings doubled."""
    moves, closings = [], []
    twins = [[at] + [at + standings] * rng.randrange(2) for at in range(standings)]
    for at in range(standings):
        row = []
        for slip in range(sizes[0]):
            answer, mark = rng.randrange(sizes[1]), rng.randrange(sizes[2])
            row += [(slip, answer, mark, goal) for goal in twins[rng.randrange(standings)]]
        moves.append(tuple(sorted(row)))
        closings.append((rng.randrange(sizes[2]),))
    return Office(sizes, tuple(moves + moves), tuple(closings + closings))


def sure_offices(many, seed):
    rng = random.Random(seed)
    shapes = [(1, 2, 1), (2, 2, 1), (2, 1, 2), (2, 2, 2), (2, 3, 1), (3, 2, 1)]
    return [sure_office(rng, rng.choice(shapes), rng.randint(1, 4)) for _ in range(many)]


def slow_served(office, slips):
    steps, here = [], {0}
    for slip in slips:
        step, = {move[:3] for at in here for move in office.moves[at] if move[0] == slip}
        here = {move[3] for at in here for move in office.moves[at] if move[:3] == step}
        steps.append(step)
    last, = {mark for at in here for mark in office.closings[at]}
    return tuple(steps), last


def slow_keeps(office, worths, day):
    true = slow_served(office, [step[0] for step in day[0]])
    return sum(worths[step[1]] for step in true[0]) - sum(worths[step[1]] for step in day[0])


def quick_unseen_days(office, k, many):
    """As unseen_days, by all that true days have at k neighbours."""
    width = min(k, many)
    there = set()
    for day in slow_true_days(office, many):
        marks, last = slow_board(day)
        there.update((tuple(marks), last, at, day[0][at:at + width]) for at in range(many - width + 1))
    found = []
    for day in all_days(office, many):
        marks, last = slow_board(day)
        if all((tuple(marks), last, at, day[0][at:at + width]) in there for at in range(many - width + 1)):
            found.append(day)
    return found


def unseen_false(office, k, many):
    return [day for day in quick_unseen_days(office, k, many) if not slow_is_true(office, day)]


def slow_most_kept(office, worths, k, many):
    best = None
    for day in unseen_false(office, k, many):
        kept = slow_keeps(office, worths, day)
        if best is None or kept > best[0]:
            best = (kept, day)
    return best


class SureTest(unittest.TestCase):
    def test_named(self):
        for office in [LOAF, HUNG_UP, TWINS, echo_office(1), echo_office(3), JUST_2000]:
            self.assertTrue(slow_is_sure(office))
            self.assertIs(is_sure(office), True)
        for office in [NOBODY, NEVER, FORKED, SIXTY, HALVES] + UNLIKE:
            self.assertFalse(slow_is_sure(office))
            self.assertIs(is_sure(office), False)

    def test_standings_that_nothing_leads_to(self):
        office = Office((1, 2, 2), (((0, 0, 0, 0),), ((0, 0, 0, 0), (0, 1, 1, 1)), ()), ((1,), (0, 1), ()))
        self.assertIs(is_sure(office), True)
        self.assertEqual(served(office, (0, 0)), (((0, 0, 0), (0, 0, 0)), 1))

    def test_what_is_lacking(self):
        right = (((0, 0, 0, 1), (1, 0, 0, 1)), ((0, 0, 0, 0), (1, 0, 0, 0)))
        self.assertIs(is_sure(Office((2, 2, 2), right, ((0,), (1,)))), True)
        self.assertIs(is_sure(Office((3, 2, 2), right, ((0,), (1,)))), False)
        for row in (((0, 0, 0, 0),), ((1, 0, 0, 0),), ((0, 0, 0, 0), (0, 0, 1, 0), (1, 0, 0, 0)), (),
                    ((0, 0, 0, 0), (0, 1, 0, 0)), ((0, 0, 0, 0), (1, 0, 0, 0), (1, 1, 0, 0))):
            self.assertIs(is_sure(Office((2, 2, 2), (right[0], row), ((0,), (1,)))), False)
        for lasts in ((), (0, 1)):
            self.assertIs(is_sure(Office((2, 2, 2), right, ((0,), lasts))), False)
            self.assertIs(is_sure(Office((2, 2, 2), right, (lasts, (0,)))), False)

    def test_many_offices(self):
        many = 0
        for office in small_offices(300, 51) + sure_offices(60, 52):
            many += slow_is_sure(office)
            self.assertIs(is_sure(office), slow_is_sure(office))
        self.assertGreater(many, 59)

    def test_two_standings_that_tell_one_slip(self):
        rng = random.Random(53)
        both = {True: 0, False: 0}
        for _ in range(400):
            moves = tuple(tuple(sorted({(slip, rng.randrange(2), 0, rng.randrange(3)) for slip in (0, 1)
                                        for _ in range(2)})) for _ in range(3))
            twin = (moves[0], moves[1], rng.choice(moves))
            office = Office((2, 2, 1), twin, ((0,),) * 3)
            both[is_sure(office)] += 1
            self.assertIs(is_sure(office), slow_is_sure(office))
        self.assertGreater(min(both.values()), 8)

    def test_too_many(self):
        for call in (is_sure, lambda office: served(office, ()), lambda office: served(office, None),
                     lambda office: keeps(office, None, None), lambda office: keeps(office, (0,) * 4, ((), 0)),
                     lambda office: most_kept(office, None, None, None),
                     lambda office: most_kept(office, (0,) * 4, 0, 1)):
            with self.assertRaises(TooMany) as caught:
                call(SIXTY_ONE)
            self.assertEqual(caught.exception.most, 60)
        self.assertIs(is_sure(SIXTY), False)
        self.assertRaises(NotSure, served, SIXTY, ())

    def test_just_60_sets(self):
        def ring(many):
            moves = tuple(((0, 0, 0, (at + 1) % many), (1, 1, 0, at)) for at in range(many))
            return wide_office((2, 2, 1), moves, ((0,),) * many)

        self.assertIs(is_sure(ring(60)), True)
        self.assertTrue(slow_is_true(ring(60), served(ring(60), (0,) * 60 + (1,))))
        self.assertEqual(keeps(ring(60), (0, 1), BOTH), 2)
        self.assertIsNone(most_kept(ring(60), (0, 1), 1, 2))
        for call in (is_sure, lambda office: served(office, ()), lambda office: keeps(office, (0, 1), BOTH),
                     lambda office: most_kept(office, (0, 1), 1, 2)):
            self.assertRaises(TooMany, call, ring(61))
        self.assertEqual(len(unseen_days(ring(61), 1, 2)), 4)


class ServedTest(unittest.TestCase):
    def test_own_words(self):
        self.assertEqual(served(LOAF, (0, 1, 1, 0)), (((0, 1, 0), (1, 0, 0), (1, 1, 0), (0, 1, 0)), 0))
        self.assertEqual(served(LOAF, ()), ((), 0))
        self.assertEqual(served(HUNG_UP, (1, 0)), (((1, 0, 1), (0, 0, 0)), 0))
        self.assertEqual(served(TWINS, (0, 1, 0)), slow_served(TWINS, (0, 1, 0)))

    def test_one_true_day(self):
        for office in [LOAF, HUNG_UP, TWINS, echo_office(2)] + sure_offices(60, 54):
            for many in range(4):
                true = slow_true_days(office, many)
                rows = list(product(range(office.sizes[0]), repeat=many))
                self.assertEqual(len(true), len(rows))
                self.assertEqual(sorted(served(office, row) for row in rows), true)
                for row in rows:
                    self.assertEqual(tuple(step[0] for step in served(office, row)[0]), row)

    def test_long_rows(self):
        for many in (30, 200):
            day = served(LOAF, (1,) * many)
            self.assertEqual(day, (((1, 0, 0),) + ((1, 1, 0),) * (many - 1), 0))
            self.assertIs(is_true(echo_office(3), served(echo_office(3), (0, 1, 1, 0) * (many // 4))), True)

    def test_wrong(self):
        for thing in odd_things() + [[0], (2,), (0, -1), (0, True), (False,), ("0",), 0, (0, (0,)), "01", range(2)]:
            if thing != ():
                self.assertRaises(NoSlips, served, LOAF, thing)
            self.assertRaises(NotSure, served, FORKED, thing)
        for thing in odd_things():
            self.assertRaises(NoSlips, served, LOAF, (0, thing))
        for thing in twisted((0, 1)):
            if isinstance(thing, tuple) and all(type(part) is int and part in (0, 1) for part in thing):
                self.assertTrue(is_true(LOAF, served(LOAF, thing)))
            else:
                self.assertRaises(NoSlips, served, LOAF, thing)


class KeepsTest(unittest.TestCase):
    def test_own_words(self):
        self.assertEqual(keeps(LOAF, (5, 0), BOTH), -5)
        self.assertEqual(keeps(LOAF, (5, 0), (((1, 1, 0), (1, 1, 0)), 0)), 5)
        self.assertEqual(keeps(LOAF, (5, 3), (((1, 1, 0), (1, 1, 0)), 0)), 2)
        self.assertEqual(keeps(LOAF, (99, 0), (((1, 0, 0), (1, 1, 0)), 0)), 0)
        self.assertEqual(keeps(LOAF, (0, 99), (((0, 0, 0),) * 200, 0)), 99 * 200)
        self.assertEqual(keeps(LOAF, (0, 99), ((), 0)), 0)

    def test_all_days(self):
        rng = random.Random(55)
        for office in [LOAF, HUNG_UP, TWINS] + sure_offices(40, 56):
            worths = tuple(rng.choice([0, 1, 7, 98, 99]) for _ in range(office.sizes[1]))
            for many in range(3):
                for day in all_days(office, many):
                    kept = keeps(office, worths, day)
                    self.assertIs(type(kept), int)
                    self.assertEqual(kept, slow_keeps(office, worths, day))

    def test_wrong(self):
        no_worths = [(5,), (5, 0, 0), [5, 0], (100, 0), (0, -1), (True, 0), (0, False), ("5", 0), 5, (0, (0,)), ()]
        for thing in odd_things() + no_worths:
            self.assertRaises(NoWorths, keeps, LOAF, thing, BOTH)
            self.assertRaises(NoWorths, keeps, LOAF, thing, thing)
            self.assertRaises(NoWorths, most_kept, LOAF, thing, 1, 2)
            self.assertRaises(NoWorths, most_kept, LOAF, thing, thing, thing)
            self.assertRaises(NotSure, keeps, FORKED, thing, thing)
            self.assertRaises(NotSure, most_kept, FORKED, thing, thing, thing)
        for thing in odd_things():
            self.assertRaises(NoWorths, keeps, LOAF, (0, thing), BOTH)
        for thing in odd_things() + NO_DAYS:
            self.assertRaises(NoDay, keeps, LOAF, (0, 99), thing)
        self.assertEqual(keeps(LOAF, (99, 99), BOTH), 0)


class MostKeptTest(unittest.TestCase):
    def test_e11(self):
        self.assertEqual(most_kept(LOAF, (5, 0), 1, 2), (5, (((0, 1, 0), (1, 1, 0)), 0)))

    def test_against_all_days(self):
        rng = random.Random(57)
        none = 0
        for office in [LOAF, HUNG_UP, TWINS, echo_office(1), echo_office(2)] + sure_offices(60, 58):
            for many in range(1, 5 if office.sizes[0] * office.sizes[1] * office.sizes[2] < 8 else 4):
                for k in (1, 2, 3, 4):
                    worths = tuple(rng.choice([0, 1, 50, 99]) for _ in range(office.sizes[1]))
                    right = slow_most_kept(office, worths, k, many)
                    self.assertEqual(most_kept(office, worths, k, many), right)
                    none += right is None
                    if k > many:
                        self.assertIsNone(right)
        self.assertGreater(none, 60)

    def test_least_day_of_those_that_keep_alike(self):
        self.assertEqual(most_kept(LOAF, (0, 0), 1, 2), (0, (((0, 1, 0), (1, 1, 0)), 0)))
        self.assertEqual(most_kept(LOAF, (99, 99), 1, 3), (0, unseen_false(LOAF, 1, 3)[0]))

    def test_six_people(self):
        self.assertEqual(most_kept(LOAF, (1, 0), 2, 6), slow_most_kept(LOAF, (1, 0), 2, 6))
        self.assertEqual(most_kept(LOAF, (1, 0), 4, 6), slow_most_kept(LOAF, (1, 0), 4, 6))
        self.assertIsNone(most_kept(HUNG_UP, (1,), 1, 6))

    def test_just_2000(self):
        days = quick_unseen_days(JUST_2000, 2, 6)
        self.assertEqual((len(days), len([day for day in days if not slow_is_true(JUST_2000, day)])), (2729, 2000))
        self.assertEqual(most_kept(JUST_2000, (2, 7), 2, 6), slow_most_kept(JUST_2000, (2, 7), 2, 6))
        days = quick_unseen_days(JUST_2001, 2, 6)
        self.assertEqual((len(days), len([day for day in days if not slow_is_true(JUST_2001, day)])), (2730, 2001))
        with self.assertRaises(TooMany) as caught:
            most_kept(JUST_2001, (2, 7), 2, 6)
        self.assertEqual(caught.exception.most, 2000)
        # The true ones do not count here, though they do for unseen_days.
        self.assertRaises(TooMany, unseen_days, JUST_2000, 2, 6)

    def test_many_true_days(self):
        rows = tuple((slip, slip, mark, 0) for slip, mark in zip(range(4), (0, 1, 2, 3)))
        office = Office((4, 4, 4), (rows,), ((3,),))
        self.assertIsNone(most_kept(office, (0, 1, 2, 3), 4, 6))
        # One that remembers nothing but the first slip.
        far = Office((4, 4, 1), (tuple((slip, 0, 0, slip) for slip in range(4)),) + tuple(
            tuple((slip, at, 0, at) for slip in range(4)) for at in range(1, 4)), ((0,),) * 4)
        self.assertRaises(TooMany, most_kept, far, (0, 1, 2, 3), 1, 6)
        self.assertEqual(most_kept(far, (0, 1, 2, 3), 1, 2), slow_most_kept(far, (0, 1, 2, 3), 1, 2))

    def test_wrong_numbers(self):
        for thing in odd_things() + [0, 5, "1", (1,)]:
            self.assertRaises(NoNumber, most_kept, LOAF, (5, 0), thing, 2)
            self.assertRaises(NoNumber, most_kept, LOAF, (5, 0), thing, thing)
        for thing in odd_things() + [0, 7, "1", (1,)]:
            self.assertRaises(NoNumber, most_kept, LOAF, (5, 0), 1, thing)
            self.assertRaises(NoNumber, most_kept, JUST_2001, (5, 0), 1, thing)
        for k in (1, 4):
            for many in (1, 6):
                most_kept(LOAF, (5, 0), k, many)


class UnseenDaysTest(unittest.TestCase):
    def test_own_words(self):
        self.assertEqual(unseen_days(LOAF, 2, 2), slow_true_days(LOAF, 2))
        self.assertEqual(len(unseen_days(LOAF, 1, 2)), 2 * 3)
        self.assertEqual(unseen_days(NEVER, 1, 3), [])
        self.assertEqual(unseen_days(NOBODY, 4, 1), [])
        self.assertEqual(unseen_days(HUNG_UP, 1, 3), slow_true_days(HUNG_UP, 3))

    def test_like_unseen(self):
        for office in [LOAF, HUNG_UP, FORKED, NEVER, NOBODY, HALVES, TWINS] + small_offices(60, 60):
            for many in range(1, 4):
                days = all_days(office, many)
                if len(days) < 700:
                    for k in (1, 2, 3, 4):
                        found = unseen_days(office, k, many)
                        true = slow_true_days(office, many)
                        self.assertEqual([day for day in days if unseen(office, day, k) or day in true], found)

    def test_against_all_days(self):
        for office in [LOAF, FORKED, echo_office(2), HALVES] + small_offices(80, 61) + sure_offices(30, 62):
            for many in range(1, 7):
                if (office.sizes[0] * office.sizes[1] * office.sizes[2]) ** many * office.sizes[2] < 1500:
                    true = slow_true_days(office, many)
                    for k in (1, 2, 3, 4):
                        right = quick_unseen_days(office, k, many)
                        if len(right) <= 2000:
                            self.assertEqual(unseen_days(office, k, many), right)
                        else:
                            self.assertRaises(TooMany, unseen_days, office, k, many)
                        for day in random.Random(many).sample(right, min(3, len(right))):
                            self.assertTrue(day in true or slow_unseen(true, day, k))

    def test_more_people_than_neighbours_and_fewer(self):
        for k in (1, 2, 3, 4):
            for many in range(1, 7):
                self.assertEqual(unseen_days(LOAF, k, many), quick_unseen_days(LOAF, k, many))

    def test_just_2000(self):
        found = unseen_days(ALL_2000, 1, 6)
        self.assertEqual(len(found), 2000)
        self.assertEqual(found, quick_unseen_days(ALL_2000, 1, 6))

    def layered(self, extra):
        """2000 true days with first mark 0, and as many more with first mark 1."""
        counts = (4, 5, 5, 5, 2, 2)
        steps = [(slip, answer, 0) for slip in range(4) for answer in range(4)]
        rows = [tuple(step + (at + 1,) for step in steps[:many]) for at, many in enumerate(counts)] + [()]
        first = tuple((slip, 0, 1, 7) for slip in range(extra))
        path = [((0, 0, 0, at + 1),) for at in range(7, 11)] + [((0, 0, 0, 6),)]
        return Office((4, 4, 4), (tuple(sorted(rows[0] + first)),) + tuple(rows[1:] + path),
                      ((),) * 6 + ((0,),) + ((),) * 5)

    def test_just_2001(self):
        for k in (1, 2, 3, 4):
            self.assertEqual(len(unseen_days(self.layered(0), k, 6)), 2000)
            with self.assertRaises(TooMany) as caught:
                unseen_days(self.layered(1), k, 6)
            self.assertEqual(caught.exception.most, 2000)
            self.assertEqual(unseen_days(self.layered(1), k, 5), [])

    def test_far_too_many(self):
        rows = tuple((slip, answer, mark, 0) for slip in range(4) for answer in range(4) for mark in range(4))
        for k in (1, 2, 3, 4):
            self.assertRaises(TooMany, unseen_days, Office((4, 4, 4), (rows,), ((0, 1, 2, 3),)), k, 6)
            self.assertRaises(TooMany, unseen_days, Office((4, 4, 4), (rows[:4],), ((0, 1, 2, 3),)), k, 6)

    def test_boards_that_lead_nowhere(self):
        # More than 2000 rows of five marks are begins of no board of a true day of six people.
        rows = tuple((slip, 0, mark, 0) for slip in range(4) for mark in range(4))
        office = Office((4, 4, 4), (rows + ((3, 3, 3, 1),), ((0, 0, 0, 2),), ((0, 0, 0, 3),), ((0, 0, 0, 4),),
                                    ((0, 0, 0, 5),), ((0, 0, 0, 6),), ()), ((),) * 6 + ((0,),))
        for k in (1, 4):
            self.assertEqual(unseen_days(office, k, 6), [(((3, 3, 3),) + ((0, 0, 0),) * 5, 0)])

    def test_no_bound_of_the_reader(self):
        self.assertEqual(len(unseen_days(SIXTY_ONE, 1, 1)), 60)
        self.assertEqual(unseen_days(SIXTY_ONE, 4, 2), [])
        self.assertEqual(unseen_days(SIXTY_ONE, 2, 1), slow_true_days(SIXTY_ONE, 1))

    def test_wrong(self):
        for thing in odd_things() + [0, 5, "1", (1,)]:
            self.assertRaises(NoNumber, unseen_days, LOAF, thing, 2)
            self.assertRaises(NoNumber, unseen_days, LOAF, thing, thing)
        for thing in odd_things() + [0, 7, "1", (1,)]:
            self.assertRaises(NoNumber, unseen_days, LOAF, 1, thing)
            self.assertRaises(NoNumber, unseen_days, SIXTY_ONE, 1, thing)

    def test_new_lists(self):
        unseen_days(LOAF, 1, 2).clear()
        self.assertEqual(len(unseen_days(LOAF, 1, 2)), 6)


if __name__ == "__main__":
    unittest.main()
