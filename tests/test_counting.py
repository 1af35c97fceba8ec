"""10.1: how many true days there are, and their numbers."""

import random
import unittest

from falsedays.counting import day_at, day_number, many_days, many_with
from falsedays.errors import NoBoard, NoDay, NoNumber, TooMany
from falsedays.offices import Office, is_true, some_true, true_days
from tests.helpers import (FORKED, HUNG_UP, LOAF, NEVER, NO_BOARDS, NO_DAYS, NOBODY, SIXTY, SIXTY_ONE, all_boards,
                           echo_office, is_whole, odd_things, random_office, slow_is_true, slow_on_board,
                           slow_true_days, small_offices, wide_office)

GREAT = 10 ** 30
BOTH = (((1, 0, 0), (1, 0, 0)), 0)
# A comer may do one of two things, but nobody does the second one twice: the numbers of Fibonacci.
NO_TWO = Office((2, 1, 1), (((0, 0, 0, 0), (1, 0, 0, 1)), ((0, 0, 0, 0),)), ((0,), (0,)))
# Two moves of one step: still one day of each number of people.
TWICE = Office((1, 1, 1), (((0, 0, 0, 0), (0, 0, 0, 1)), ((0, 0, 0, 0), (0, 0, 0, 1))), ((0,), (0,)))


def fibonacci(at, modulus):
    """By halving: what stands at a place, with what stands behind it."""
    if at == 0:
        return 0, 1
    low, high = fibonacci(at // 2, modulus)
    low, high = low * (2 * high - low) % modulus, (low * low + high * high) % modulus
    return (high, (low + high) % modulus) if at % 2 else (low, high)


class ManyDaysTest(unittest.TestCase):
    def test_e13(self):
        self.assertEqual(many_days(LOAF, 10, 1000), 24)

    def test_own_words(self):
        self.assertEqual(many_days(LOAF, 0, GREAT), 1)
        self.assertEqual(many_days(LOAF, 60, GREAT), 2 ** 60)
        self.assertEqual(many_days(NEVER, 60, GREAT), 0)
        self.assertEqual(many_days(NOBODY, 0, GREAT), 1)
        self.assertEqual(many_days(NOBODY, 1, GREAT), 0)
        self.assertEqual(many_days(TWICE, 5, GREAT), 1)
        self.assertEqual(many_days(Office((1, 1, 4), ((),), ((0, 1, 3),)), 0, GREAT), 3)
        self.assertEqual(many_days(Office((1, 1, 4), ((),), ((0, 1, 3),)), 0, 2), 1)

    def test_like_true_days(self):
        for office in [LOAF, HUNG_UP, FORKED, NEVER, NOBODY, TWICE, NO_TWO] + small_offices(150, 121, 4):
            for many in range(7):
                try:
                    right = len(true_days(office, many))
                except TooMany:
                    self.assertGreater(many_days(office, many, GREAT), 2000)
                    continue
                self.assertEqual(many_days(office, many, GREAT), right)
                for modulus in (1, 2, 3, 7, 10, 2001):
                    self.assertEqual(many_days(office, many, modulus), right % modulus)

    def test_great_numbers(self):
        for many in (10, 100, 10 ** 9, 10 ** 30 - 1, 10 ** 30):
            for modulus in (1, 2, 10 ** 9 + 7, 10 ** 30 - 1, 10 ** 30):
                self.assertEqual(many_days(LOAF, many, modulus), pow(2, many, modulus))
                self.assertEqual(many_days(NO_TWO, many, modulus), fibonacci(many + 2, modulus)[0])
                self.assertEqual(many_days(NOBODY, many, modulus), 0)

    def test_sixty_sets(self):
        self.assertEqual(many_days(SIXTY, 1, GREAT), 59)
        self.assertEqual(many_days(SIXTY, GREAT, GREAT), 0)
        ring = wide_office((2, 1, 1), tuple(((0, 0, 0, (at + 1) % 60), (1, 0, 0, (at + 1) % 60)) for at in range(60)),
                           ((0,),) + ((),) * 59)
        self.assertEqual(many_days(ring, GREAT, GREAT - 1), pow(2, GREAT, GREAT - 1) if GREAT % 60 == 0 else 0)
        self.assertEqual(many_days(ring, GREAT // 60 * 60, GREAT - 1), pow(2, GREAT // 60 * 60, GREAT - 1))

    def test_wrong(self):
        for thing in odd_things() + ["1", (1,), GREAT + 1]:
            if not (is_whole(thing) and 0 <= thing <= GREAT):
                self.assertRaises(NoNumber, many_days, LOAF, thing, 7)
                self.assertRaises(NoNumber, many_days, LOAF, thing, thing)
                self.assertRaises(NoNumber, many_days, SIXTY_ONE, thing, thing)
            if not (is_whole(thing) and 1 <= thing <= GREAT):
                self.assertRaises(NoNumber, many_days, LOAF, 7, thing)
                self.assertRaises(NoNumber, many_days, SIXTY_ONE, 7, thing)
        self.assertRaises(NoNumber, many_days, LOAF, 7, 0)
        self.assertRaises(NoNumber, many_days, LOAF, 7, False)
        self.assertRaises(NoNumber, many_days, LOAF, True, 7)

    def test_too_many(self):
        for call in (lambda: many_days(SIXTY_ONE, 0, 1), lambda: day_at(SIXTY_ONE, 0, 0),
                     lambda: day_at(SIXTY_ONE, 1, -1), lambda: day_at(SIXTY_ONE, 60, None),
                     lambda: day_number(SIXTY_ONE, ((), 0)), lambda: many_with(SIXTY_ONE, ((), 0))):
            with self.assertRaises(TooMany) as caught:
                call()
            self.assertEqual(caught.exception.most, 60)


class NumberTest(unittest.TestCase):
    def test_all_numbers(self):
        for office in [LOAF, HUNG_UP, FORKED, NEVER, NOBODY, TWICE, NO_TWO] + small_offices(100, 122, 4):
            for many in range(4):
                days = slow_true_days(office, many)
                self.assertEqual([day_at(office, many, number) for number in range(len(days))], days)
                self.assertEqual([day_number(office, day) for day in days], list(range(len(days))))
                for number in (-1, len(days), len(days) + 1, 10 ** 39):
                    self.assertRaises(NoNumber, day_at, office, many, number)

    def test_nobody(self):
        office = Office((1, 1, 4), ((),), ((0, 1, 3),))
        self.assertEqual([day_at(office, 0, number) for number in range(3)], [((), 0), ((), 1), ((), 3)])
        self.assertEqual(day_number(office, ((), 3)), 2)
        self.assertRaises(NoNumber, day_at, office, 0, 3)
        self.assertRaises(NoDay, day_number, office, ((), 2))

    def test_last_marks_of_one_row_stand_together(self):
        office = Office((2, 1, 3), (((0, 0, 1, 0), (1, 0, 2, 0)),), ((0, 2),))
        days = [day_at(office, 2, number) for number in range(8)]
        self.assertEqual(days, sorted(days))
        self.assertEqual(days[:3], [(((0, 0, 1), (0, 0, 1)), 0), (((0, 0, 1), (0, 0, 1)), 2),
                                    (((0, 0, 1), (1, 0, 2)), 0)])

    def test_sixty_people(self):
        for office in (LOAF, HUNG_UP, FORKED, NO_TWO, echo_office(3), Office((1, 1, 2), (((0, 0, 0, 0),),), ((0, 1),))):
            many = many_days(office, 60, GREAT)
            self.assertGreater(many, 1)
            rng = random.Random(123)
            numbers = [0, 1, many // 2, many - 2, many - 1] + [rng.randrange(many) for _ in range(5)]
            for number in numbers:
                day = day_at(office, 60, number)
                self.assertTrue(slow_is_true(office, day))
                self.assertEqual(len(day[0]), 60)
                self.assertEqual(day_number(office, day), number)
            days = [day_at(office, 60, number) for number in sorted(numbers)]
            self.assertEqual(days, sorted(days))
            for number in (many, -1, many + 1):
                self.assertRaises(NoNumber, day_at, office, 60, number)
        full = Office((4, 4, 4), (tuple((slip, answer, mark, 0) for slip in range(4) for answer in range(4)
                                        for mark in range(4)),), ((0, 1, 2, 3),))
        self.assertEqual(day_at(full, 60, 4 * 64 ** 60 - 1), (((3, 3, 3),) * 60, 3))
        self.assertEqual(day_at(full, 60, 0), (((0, 0, 0),) * 60, 0))
        self.assertEqual(day_number(full, (((3, 3, 3),) * 60, 3)), 4 * 64 ** 60 - 1)

    def test_200_people(self):
        for office in (LOAF, FORKED, NO_TWO):
            day = some_true(office, 200)
            self.assertEqual(day_number(office, day) >= 0, True)
        self.assertEqual(day_number(LOAF, (((0, 1, 0),) * 200, 0)), 0)
        self.assertEqual(day_number(LOAF, (((1, 0, 0),) + ((1, 1, 0),) * 199, 0)), 2 ** 200 - 1)
        self.assertEqual(day_number(NO_TWO, (((1, 0, 0),) + ((0, 0, 0),) * 199, 0)), fibonacci(201, 10 ** 60)[0])

    def test_wrong(self):
        for thing in odd_things() + [61, 200, "1", (1,)]:
            self.assertRaises(NoNumber, day_at, LOAF, thing, 0)
            self.assertRaises(NoNumber, day_at, LOAF, thing, thing)
            self.assertRaises(NoNumber, day_at, SIXTY_ONE, thing, 0)
            self.assertRaises(NoNumber, day_at, NEVER, 5, thing)
        for thing in odd_things() + ["1", (1,)]:
            self.assertRaises(NoNumber, day_at, LOAF, 3, thing)
        self.assertRaises(NoNumber, day_at, LOAF, 3, 8)
        self.assertRaises(NoNumber, day_at, LOAF, 3, False)
        self.assertEqual(day_at(LOAF, 3, 7), (((1, 0, 0), (1, 1, 0), (1, 1, 0)), 0))
        for thing in odd_things() + NO_DAYS + [BOTH, (((0, 0, 0),), 0)]:
            self.assertRaises(NoDay, day_number, LOAF, thing)
        for thing in odd_things() + [(((3, 3, 3),), 0), ((), 1)]:
            self.assertRaises(NoDay, day_number, SIXTY_ONE, thing)


class ManyWithTest(unittest.TestCase):
    def test_own_words(self):
        self.assertEqual(many_with(LOAF, ((0, 0), 0)), 4)
        self.assertEqual(many_with(LOAF, ((), 0)), 1)
        self.assertEqual(many_with(LOAF, ((0,) * 200, 0)), 2 ** 200)
        self.assertEqual(many_with(HUNG_UP, ((1, 0, 1), 0)), 1)
        self.assertEqual(many_with(HUNG_UP, ((1, 0, 1), 1)), 0)
        self.assertEqual(many_with(NEVER, ((0,), 0)), 0)
        self.assertEqual(many_with(TWICE, ((0,) * 30, 0)), 1)
        self.assertEqual(many_with(NO_TWO, ((0,) * 198, 0)), fibonacci(200, 10 ** 60)[0])

    def test_over_all_boards(self):
        for office in [LOAF, HUNG_UP, FORKED, NEVER, NOBODY, TWICE] + small_offices(100, 124, 4):
            for many in range(4):
                true = slow_true_days(office, many)
                counts = [many_with(office, the_board) for the_board in all_boards(office, many)]
                self.assertEqual(counts, [len(slow_on_board(true, board)) for board in all_boards(office, many)])
                self.assertEqual(sum(counts), many_days(office, many, GREAT))

    def test_many_standings(self):
        rng = random.Random(125)
        for _ in range(20):
            office = random_office(rng, (2, 1, 2), 5, 0.3)
            boards = all_boards(office, 8)
            self.assertEqual(sum(many_with(office, board) for board in boards), many_days(office, 8, GREAT))

    def test_wrong(self):
        for thing in odd_things() + NO_BOARDS:
            self.assertRaises(NoBoard, many_with, LOAF, thing)
        for thing in odd_things():
            self.assertRaises(NoBoard, many_with, LOAF, ((0, thing), 0))
            self.assertRaises(NoBoard, many_with, SIXTY_ONE, ((0,), thing))
            self.assertRaises(NoBoard, many_with, SIXTY_ONE, (thing, 0))
        self.assertIs(is_true(LOAF, ((), 0)), True)


if __name__ == "__main__":
    unittest.main()
