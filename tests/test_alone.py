"""4.4: what each one alone sees, and learns of the others."""

import random
import unittest

from falsedays.alone import is_learning, learning, left
from falsedays.errors import NoBoard, NoNote, NoNumber, TooMany
from falsedays.neighbours import enough
from falsedays.offices import Office
from falsedays.tales import unseen
from tests.helpers import (FORKED, HUNG_UP, LOAF, NEVER, NO_BOARDS, NOBODY, SIXTY, SIXTY_ONE, all_days,
                           clock_office, echo_office, odd_things, slow_board, slow_is_learning, slow_true_days,
                           small_offices, twisted, two_ends_office)

NO_NOTES = [(2, 0), (0, 2), (-1, 0), (0, -1), (True, 0), (0, False), [0, 0], (0,), (0, 0, 0), 0, (0, "0"), ((0, 0),)]


class LeftTest(unittest.TestCase):
    def test_e08(self):
        self.assertIsNone(learning(HUNG_UP))
        self.assertEqual(left(LOAF, ((0, 0), 0), 0, (1, 0)), 2)

    def test_own_words(self):
        self.assertEqual(left(LOAF, ((0, 0), 0), 1, (1, 0)), 1)
        self.assertEqual(left(LOAF, ((0, 0), 0), 1, (0, 1)), 2)
        self.assertEqual(left(LOAF, ((0, 0), 0), 0, (1, 1)), 0)
        self.assertEqual(left(LOAF, ((0, 0), 0), 0, (0, 0)), 0)
        self.assertEqual(left(NEVER, ((0,), 0), 0, (0, 0)), 0)
        self.assertEqual(left(HUNG_UP, ((1, 0), 0), 0, (1, 0)), 1)
        self.assertEqual(left(HUNG_UP, ((1, 0), 0), 0, (0, 0)), 0)
        self.assertEqual(left(HUNG_UP, ((1, 0), 1), 0, (1, 0)), 0)

    def test_long_boards(self):
        board = ((0,) * 200, 0)
        self.assertEqual(left(LOAF, board, 0, (1, 0)), 2 ** 199)
        self.assertEqual(left(LOAF, board, 199, (1, 0)), 1)
        self.assertEqual(left(LOAF, board, 100, (0, 1)), 2 ** 199)
        self.assertEqual(left(LOAF, board, 100, (1, 1)), 2 ** 199 - 2 ** 99)

    def test_unlike_moves_of_one_day_count_once(self):
        office = Office((1, 1, 1), (((0, 0, 0, 0), (0, 0, 0, 1)), ((0, 0, 0, 0), (0, 0, 0, 1))), ((0,), (0,)))
        self.assertEqual(left(office, ((0,) * 9, 0), 4, (0, 0)), 1)

    def test_against_all_true_days(self):
        rng = random.Random(31)
        for office in [LOAF, HUNG_UP, FORKED] + small_offices(50, 32, 4):
            for many in range(1, 4):
                true = slow_true_days(office, many)
                for day in rng.sample(all_days(office, many), 2):
                    marks, last = slow_board(day)
                    for place in range(many):
                        for note in [(slip, answer) for slip in range(office.sizes[0])
                                     for answer in range(office.sizes[1])]:
                            rows = {other[0][:place] + other[0][place + 1:] for other in true
                                    if slow_board(other) == (marks, last) and other[0][place][:2] == note}
                            self.assertEqual(left(office, (tuple(marks), last), place, note), len(rows))

    def test_wrong(self):
        board = ((0, 0), 0)
        for office in (LOAF, NOBODY):
            for thing in odd_things() + NO_BOARDS:
                self.assertRaises(NoBoard, left, office, thing, 0, (0, 0))
                self.assertRaises(NoBoard, left, office, thing, thing, thing)
            for thing in odd_things():
                self.assertRaises(NoBoard, left, office, ((thing,), 0), 0, (0, 0))
                self.assertRaises(NoBoard, left, office, ((0,), thing), 0, (0, 0))
        for thing in odd_things() + [2, 200, (0,), "0", [0]]:
            self.assertRaises(NoNumber, left, LOAF, board, thing, (0, 0))
            self.assertRaises(NoNumber, left, LOAF, board, thing, thing)
            self.assertRaises(NoNumber, left, LOAF, ((), 0), thing, thing)
            self.assertRaises(NoNumber, left, SIXTY_ONE, board, thing, thing)
        self.assertRaises(NoNumber, left, LOAF, ((), 0), 0, (0, 0))
        for thing in odd_things() + NO_NOTES:
            self.assertRaises(NoNote, left, LOAF, board, 0, thing)
            self.assertRaises(NoNote, left, LOAF, board, 1, thing)
        for thing in odd_things():
            self.assertRaises(NoNote, left, SIXTY_ONE, board, 0, thing)
            self.assertRaises(NoNote, left, LOAF, board, 0, (0, thing))
        # Of three answers the third one is a note here, where there are two slips.
        office = Office((2, 3, 1), ((),), ((0,),))
        self.assertEqual(left(office, ((0,), 0), 0, (1, 2)), 0)
        self.assertRaises(NoNote, left, office, ((0,), 0), 0, (2, 1))

    def test_too_many(self):
        with self.assertRaises(TooMany) as caught:
            left(SIXTY_ONE, ((0,), 0), 0, (0, 0))
        self.assertEqual(caught.exception.most, 60)
        self.assertEqual(left(SIXTY, ((0,), 0), 0, (0, 0)), 1)


class LearningTest(unittest.TestCase):
    def test_found_ones(self):
        many = 0
        for office in [LOAF, HUNG_UP, NOBODY, NEVER, FORKED, SIXTY, echo_office(1), echo_office(4), two_ends_office(8),
                       clock_office(10, 9)] + small_offices(300, 33, 4):
            found = learning(office)
            self.assertEqual(found is None, enough(office, 1))
            if found is not None:
                many += 1
                self.assertTrue(slow_is_learning(office, found))
                self.assertIs(is_learning(office, found), True)
                self.assertEqual(learning(office), found)
                one, other, place = found
                day = (other[0][:place] + one[0][place:place + 1] + other[0][place + 1:], other[1])
                self.assertIs(unseen(office, day, 1), True)
        self.assertGreater(many, 40)

    def test_own_words(self):
        one, other = (((1, 0, 0), (1, 1, 0)), 0), (((0, 1, 0), (1, 0, 0)), 0)
        self.assertIs(is_learning(LOAF, (one, other, 0)), True)
        self.assertIs(is_learning(LOAF, (one, other, 1)), True)
        self.assertIs(is_learning(LOAF, (other, one, 0)), True)
        self.assertIs(is_learning(LOAF, (one, one, 0)), False)
        self.assertIs(is_learning(LOAF, (one, other, 2)), False)
        self.assertIs(is_learning(LOAF, (one, other, -1)), False)
        self.assertIs(is_learning(LOAF, (one, other, False)), False)
        self.assertIs(is_learning(LOAF, (((), 0), ((), 0), 0)), False)
        self.assertIs(is_learning(LOAF, (one, (((1, 0, 0), (1, 0, 0)), 0), 0)), False)
        self.assertIs(is_learning(LOAF, ((((1, 0, 0), (1, 0, 0)), 0), other, 0)), False)

    def test_other_boards(self):
        office = Office((2, 1, 2), (((0, 0, 0, 1), (1, 0, 1, 2)), ((0, 0, 0, 3),), ((1, 0, 0, 3),), ()),
                        ((), (), (), (0,)))
        self.assertIs(is_learning(office, ((((0, 0, 0), (0, 0, 0)), 0), (((1, 0, 1), (1, 0, 0)), 0), 0)), False)

    def test_all_by_their_definition(self):
        for office in [LOAF, HUNG_UP, FORKED, NEVER] + small_offices(40, 34):
            for many in range(3):
                days = slow_true_days(office, many)[:12]
                for one in days:
                    for other in days:
                        for place in range(-1, many + 1):
                            right = slow_is_learning(office, (one, other, place))
                            self.assertIs(is_learning(office, (one, other, place)), right)
                            self.assertFalse(right and enough(office, 1))

    def test_anything(self):
        right = learning(LOAF)
        for thing in odd_things():
            for office in (LOAF, NOBODY, SIXTY_ONE):
                self.assertIs(is_learning(office, thing), False)
            for at in range(3):
                self.assertIs(is_learning(LOAF, right[:at] + (thing,) + right[at + 1:]), False)

    def test_twisted(self):
        for office in [LOAF, FORKED, echo_office(2)] + small_offices(30, 35):
            found = learning(office)
            if found is not None:
                for thing in twisted(found):
                    self.assertIs(is_learning(office, thing), slow_is_learning(office, thing))

    def test_too_many(self):
        with self.assertRaises(TooMany) as caught:
            learning(SIXTY_ONE)
        self.assertEqual(caught.exception.most, 60)
        self.assertIs(is_learning(SIXTY_ONE, None), False)


if __name__ == "__main__":
    unittest.main()
