"""7.1: marks that are taken for one another."""

import random
import unittest

from falsedays.colours import coloured, good_colours
from falsedays.errors import NoColours, NoNumber, TooMany
from falsedays.neighbours import crossing, enough, least_k
from falsedays.offices import Office
from falsedays.readers import reader
from tests.helpers import (FORKED, HUNG_UP, LOAF, NEVER, NOBODY, SIXTY, SIXTY_ONE, all_days, echo_office, is_whole,
                           odd_things, random_office, slow_is_crossing, slow_true_days, slow_unseen, small_offices,
                           twisted, wide_office)

FOUR = Office((2, 2, 4), (((0, 0, 3, 1), (0, 1, 1, 0), (0, 1, 2, 0), (1, 0, 0, 1), (1, 0, 2, 0)),
                          ((0, 0, 0, 1), (0, 0, 1, 1), (1, 1, 3, 0))), ((0, 1, 3), (2,)))


def slow_are_colours(thing, marks):
    if not isinstance(thing, tuple) or len(thing) != marks or not all(is_whole(colour) for colour in thing):
        return False
    return all(0 <= colour <= max(thing[:at], default=-1) + 1 for at, colour in enumerate(thing))


def slow_all_colours(marks):
    rows = [()]
    for _ in range(marks):
        rows = [row + (colour,) for row in rows for colour in range(marks)]
    return [row for row in rows if slow_are_colours(row, marks)]


def forks(far):
    """Marks tell where slip 1 forks; with the marks alike the reader must keep the last far slips in mind."""
    moves = [((0, 0, 0, 0), (1, 0, 0, 0), (1, 0, 1, 1))]
    moves += [((0, 0, 0, at + 1), (1, 0, 0, at + 1)) for at in range(1, far)] + [()]
    return Office((2, 1, 2), tuple(moves), ((),) * far + ((0,),))


class ColouredTest(unittest.TestCase):
    def test_own_words(self):
        self.assertTrue(coloured(FOUR, (0, 1, 2, 3)) == FOUR)
        office = coloured(FOUR, (0, 0, 0, 0))
        self.assertEqual(office.sizes, (2, 2, 1))
        self.assertEqual(office.moves, (((0, 0, 0, 1), (0, 1, 0, 0), (1, 0, 0, 0), (1, 0, 0, 1)),
                                        ((0, 0, 0, 1), (1, 1, 0, 0))))
        self.assertEqual(office.closings, ((0,), (0,)))
        office = coloured(FOUR, (0, 1, 0, 1))
        self.assertEqual(office.sizes, (2, 2, 2))
        self.assertEqual(office.moves, (((0, 0, 1, 1), (0, 1, 0, 0), (0, 1, 1, 0), (1, 0, 0, 0), (1, 0, 0, 1)),
                                        ((0, 0, 0, 1), (0, 0, 1, 1), (1, 1, 1, 0))))
        self.assertEqual(office.closings, ((0, 1), (0,)))
        self.assertTrue(coloured(LOAF, (0,)) == LOAF)

    def test_true_days_in_colours(self):
        rng = random.Random(70)
        for office in [FOUR, HUNG_UP, FORKED, NEVER] + [random_office(rng, (2, 1, 3), 2) for _ in range(20)]:
            for colours in slow_all_colours(office.sizes[2]):
                other = coloured(office, colours)
                self.assertIsInstance(other, Office)
                self.assertEqual(other.sizes, office.sizes[:2] + (len(set(colours)),))
                self.assertEqual(len(other.moves), len(office.moves))
                for many in range(3):
                    days = {(tuple((slip, answer, colours[mark]) for slip, answer, mark in steps), colours[last])
                            for steps, last in slow_true_days(office, many)}
                    if len(office.moves) == 1:
                        self.assertEqual(slow_true_days(other, many), sorted(days))
                    self.assertLessEqual(days, set(slow_true_days(other, many)))
                # It is such as could be constructed.
                self.assertTrue(Office(other.sizes, other.moves, other.closings) == other)

    def test_many_marks(self):
        office = wide_office((1, 1, 18), (((0, 0, 1, 0), (0, 0, 8, 0), (0, 0, 17, 0)),), ((1, 8, 17),))
        self.assertTrue(coloured(office, tuple(range(18))) == office)
        colours = (0, 0) + tuple(range(1, 17))
        self.assertEqual(coloured(office, colours).closings, ((0, 7, 16),))
        self.assertEqual(coloured(office, colours).moves, (((0, 0, 0, 0), (0, 0, 7, 0), (0, 0, 16, 0)),))
        colours = tuple(range(9)) + (0,) * 8 + (1,)
        self.assertEqual(coloured(office, colours).closings, ((1, 8),))

    def test_wrong(self):
        for thing in odd_things() + [(0,), (0, 1, 2), (1, 0), (1, 1), (0, 2), (0, -1), [0, 1], (0, True), (False, 1),
                                     ("0", 1), 0, "01", (0, (1,)), range(2), (0, 10 ** 39)]:
            self.assertRaises(NoColours, coloured, HUNG_UP, thing)
        for thing in odd_things():
            self.assertRaises(NoColours, coloured, HUNG_UP, (0, thing))
            self.assertRaises(NoColours, coloured, SIXTY_ONE, thing)
        for colours in ((0, 1, 2, 1), (0, 0, 1, 2), (0, 1, 0, 2)):
            for thing in twisted(colours):
                if slow_are_colours(thing, 4):
                    self.assertEqual(coloured(FOUR, thing).sizes[2], len(set(thing)))
                else:
                    self.assertRaises(NoColours, coloured, FOUR, thing)

    def test_no_bound_of_the_reader(self):
        self.assertEqual(coloured(SIXTY_ONE, (0, 0, 0, 0)).sizes, (4, 4, 1))
        self.assertRaises(TooMany, reader, coloured(forks(7), (0, 0)))

    def test_office_stays(self):
        office = Office(FOUR.sizes, FOUR.moves, FOUR.closings)
        coloured(office, (0, 0, 1, 1))
        good_colours(office, 1)
        self.assertTrue(office == FOUR)
        self.assertTrue(coloured(office, (0, 0, 1, 1)) == coloured(office, (0, 0, 1, 1)))
        self.assertIsNot(coloured(office, (0, 1, 2, 3)), office)


class GoodColoursTest(unittest.TestCase):
    def test_e14(self):
        self.assertEqual(good_colours(HUNG_UP, 1), [(0, 0), (0, 1)])

    def test_all_colours(self):
        for marks, many in zip(range(1, 6), (1, 2, 5, 15, 52)):
            # Where nothing is remembered all colours are good, for any number of neighbours.
            office = wide_office((1, 1, marks), (tuple((0, 0, mark, 0) for mark in range(marks)),), ((0,),))
            for k in (1, 200):
                found = good_colours(office, k)
                self.assertEqual(found, slow_all_colours(marks))
                self.assertEqual(len(found), many)

    def test_eight_marks(self):
        office = wide_office((1, 1, 8), (tuple((0, 0, mark, 0) for mark in range(8)),), ((0, 7),))
        found = good_colours(office, 1)
        self.assertEqual(len(found), 4140)
        self.assertEqual(found, sorted(found))
        self.assertEqual((found[0], found[-1]), ((0,) * 8, tuple(range(8))))

    def test_like_enough(self):
        rng = random.Random(71)
        some = 0
        offices = [FOUR, LOAF, HUNG_UP, FORKED, NEVER, NOBODY]
        offices += [random_office(rng, (2, 1, rng.choice([2, 3, 4])), rng.choice([2, 3])) for _ in range(40)]
        for office in offices + small_offices(40, 72):
            for k in (1, 2, 200):
                found = good_colours(office, k)
                self.assertIsInstance(found, list)
                self.assertEqual(found, sorted(found))
                for colours in slow_all_colours(office.sizes[2]):
                    other = coloured(office, colours)
                    self.assertIs(colours in found, enough(other, k))
                    if colours not in found:
                        self.assertTrue(slow_is_crossing(other, k, crossing(other, k)))
                some += 0 < len(found) < len(slow_all_colours(office.sizes[2]))
        self.assertGreater(some, 20)

    def test_by_false_days(self):
        for office in [FORKED, FOUR] + small_offices(30, 73):
            if office.sizes[0] * office.sizes[1] * office.sizes[2] <= 8:
                for colours in good_colours(office, 1):
                    other = coloured(office, colours)
                    for many in (1, 2):
                        true = slow_true_days(other, many)
                        for day in all_days(other, many)[::3]:
                            self.assertFalse(slow_unseen(true, day, 1))

    def test_more_colours_may_hide_more(self):
        # There are offices of which only with all marks alike each one alone sees every false day.
        rng = random.Random(74)
        offices = [random_office(rng, (2, 1, 2), 3) for _ in range(300)]
        self.assertIn([(0, 0)], [good_colours(office, 1) for office in offices])

    def test_k(self):
        for far in range(1, 4):
            office = echo_office(far)
            for k in (1, 2, 3, 200):
                self.assertEqual(good_colours(office, k), [(0,)] if k > far else [])
        for thing in odd_things() + [0, 201, "1", (1,), [1]]:
            self.assertRaises(NoNumber, good_colours, LOAF, thing)
            self.assertRaises(NoNumber, good_colours, SIXTY_ONE, thing)
            self.assertRaises(NoNumber, good_colours, forks(7), thing)

    def test_too_many(self):
        with self.assertRaises(TooMany) as caught:
            good_colours(SIXTY_ONE, 1)
        self.assertEqual(caught.exception.most, 60)
        # The marks tell the forks, but with the marks alike there are more than sixty sets.
        self.assertLess(len(reader(forks(7))[0]), 10)
        self.assertIsInstance(least_k(forks(7)), int)
        for k in (1, 200):
            with self.assertRaises(TooMany) as caught:
                good_colours(forks(7), k)
            self.assertEqual(caught.exception.most, 60)
        self.assertEqual(len(reader(coloured(forks(5), (0, 0)))[0]), 32)
        self.assertIn((0, 1), good_colours(forks(5), 200))
        self.assertEqual(good_colours(SIXTY, 1)[-1], (0, 1, 2, 3))

    def test_too_many_with_all_marks_unlike_alone(self):
        # Marks count to more than sixty, and with the marks alike there is one step only.
        moves = tuple(((0, 0, 0, at), (0, 0, 1, (at + 1) % 61)) for at in range(61))
        office = wide_office((1, 1, 2), tuple(tuple(sorted(row)) for row in moves), ((0,),) * 61)
        self.assertRaises(TooMany, good_colours, office, 1)
        office = wide_office((1, 1, 2), tuple(tuple(sorted(row)) for row in moves[:59]) + (
            tuple(sorted([(0, 0, 0, 59), (0, 0, 1, 0)])),), ((0,),) * 60)
        self.assertEqual(good_colours(office, 1), [(0, 0), (0, 1)])

    def test_new_lists(self):
        good_colours(HUNG_UP, 1).clear()
        self.assertEqual(good_colours(HUNG_UP, 1), [(0, 0), (0, 1)])


if __name__ == "__main__":
    unittest.main()
