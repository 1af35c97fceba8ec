"""16.1: strange clerks, the days that come of them, and where one is caught."""

import random
import unittest
from itertools import product

from falsedays.clerks import caught, led
from falsedays.errors import NoClerk, NoNumber, NoSlips, NoStep
from falsedays.keeping import is_sure, served
from falsedays.offices import Office, is_true
from falsedays.tales import seeing
from tests.helpers import (FORKED, HUNG_UP, LOAF, NEVER, NOBODY, SIXTY_ONE, echo_office, odd_things, outcome,
                           slow_is_mark, slow_is_true, slow_tales, slow_true_days, small_offices, wide_office)

# What a clerk of LOAF may not give for a slip, and what for closing.
NO_PAIRS = [None, 0, (), (0,), (0, 0, 0), [0, 0], (0, 1), (2, 0), (-1, 0), (0, -1), (True, 0), (0, False), ("0", 0),
            (0, None), ((0, 0), 0), ((0, 0),), "00", {0: 0}, (10 ** 39, 0), range(2)]
NO_MARKS = [None, 1, -1, False, True, "0", (0,), [0], (), (0, 0), 10 ** 39]


class OwnError(Exception):
    pass


def greedy(slips, closing):
    """A clerk of LOAF who gives everybody a loaf."""
    return 0 if closing else (1 - slips[-1], 0)


def honest(slips, closing):
    """The clerk of LOAF as the rule will have it."""
    return 0 if closing else (0 if slips[-1] == 1 and sum(slips) == 1 else 1, 0)


def clerk_of(table):
    return lambda slips, closing: table[slips, closing]


def random_table(rng, office, many, wrong):
    """What a clerk gives for all rows of so many slips; now and then it is wrong."""
    slips, answers, marks = office.sizes
    table = {}
    for row in (row for size in range(many + 1) for row in product(range(slips), repeat=size)):
        table[row, False] = (rng.randrange(answers), rng.randrange(marks))
        table[row, True] = rng.randrange(marks)
        if rng.random() < wrong:
            table[row, rng.random() < 0.5] = rng.choice([None, True, (0, 0, 0), [0, 0], (False, 0), -1, 9])
    return table


def near_table(rng, office, many, wrong):
    """As the true days will have it, where they tell, but for some places."""
    table = random_table(rng, office, many, wrong)
    for row in product(range(office.sizes[0]), repeat=many):
        if rng.random() < 0.9:
            days = [day for day in slow_true_days(office, many) if tuple(step[0] for step in day[0]) == row]
            if days:
                day = rng.choice(days)
                for at in range(many):
                    table[row[:at + 1], False] = day[0][at][1:]
                table[row, True] = day[1]
    return table


def slow_led(office, clerk, slips):
    steps = []
    for place in range(len(slips)):
        told = clerk(slips[:place + 1], False)
        if not (isinstance(told, tuple) and len(told) == 2 and type(told[0]) is int and type(told[1]) is int
                and 0 <= told[0] < office.sizes[1] and 0 <= told[1] < office.sizes[2]):
            raise NoClerk(place)
        steps.append((slips[place], told[0], told[1]))
    last = clerk(slips, True)
    if not slow_is_mark(office, last):
        raise NoClerk(len(slips))
    return tuple(steps), last


def slow_seeing(office, day):
    true = slow_true_days(office, len(day[0]))
    lots = [lot for lot in [()] + [lot for lot in product((0, 1), repeat=len(day[0])) if any(lot)]]
    lots = sorted({tuple(at for at, here in enumerate(lot) if here) for lot in lots})
    seen = [lot for lot in lots if not slow_tales(true, day, lot)]
    return [lot for lot in seen if not any(set(other) < set(lot) for other in seen)]


def slow_caught(office, clerk, many):
    for slips in product(range(office.sizes[0]), repeat=many):
        day = slow_led(office, clerk, slips)
        if not slow_is_true(office, day):
            return slips, day, slow_seeing(office, day)
    return None


class LedTest(unittest.TestCase):
    def bad(self, place, clerk, slips, office=LOAF):
        with self.assertRaises(NoClerk) as error:
            led(office, clerk, slips)
        self.assertEqual(error.exception.place, place)

    def test_own_words(self):
        self.assertEqual(led(LOAF, greedy, (1, 0, 1)), (((1, 0, 0), (0, 1, 0), (1, 0, 0)), 0))
        self.assertEqual(led(LOAF, honest, (1, 0, 1)), (((1, 0, 0), (0, 1, 0), (1, 1, 0)), 0))
        self.assertEqual(led(LOAF, honest, ()), ((), 0))
        self.assertEqual(led(HUNG_UP, lambda slips, closing: 1 if closing else (0, len(slips) % 2), (0, 0, 1)),
                         (((0, 0, 1), (0, 0, 0), (1, 0, 1)), 1))

    def test_all_rows(self):
        rng = random.Random(401)
        for office in [LOAF, HUNG_UP, FORKED, NEVER] + small_offices(60, 402):
            for wrong in (0, 0.1):
                clerk = clerk_of(random_table(rng, office, 3, wrong))
                for many in range(4):
                    for slips in product(range(office.sizes[0]), repeat=many):
                        self.assertEqual(outcome(led, office, clerk, slips), outcome(slow_led, office, clerk, slips))

    def test_what_it_is_asked(self):
        asked = []

        def clerk(slips, closing):
            self.assertIs(type(slips), tuple)
            self.assertIs(type(closing), bool)
            asked.append((slips, closing))
            return honest(slips, closing)

        self.assertEqual(led(LOAF, clerk, (1, 0, 1)), led(LOAF, honest, (1, 0, 1)))
        self.assertEqual(set(asked), {((1,), False), ((1, 0), False), ((1, 0, 1), False), ((1, 0, 1), True)})
        asked.clear()
        self.assertEqual(led(LOAF, clerk, ()), ((), 0))
        self.assertEqual(set(asked), {((), True)})
        asked.clear()
        self.assertIsNone(caught(LOAF, clerk, 2))
        rows = list(product((0, 1), repeat=2))
        self.assertEqual(set(asked), {((0,), False), ((1,), False)} | {(row, flag) for row in rows
                                                                       for flag in (False, True)})

    def test_wrong_answers(self):
        for thing in NO_PAIRS + odd_things():
            for place in range(4):
                def clerk(slips, closing):
                    return thing if len(slips) == place + 1 and not closing else honest(slips, closing)

                self.bad(place, clerk, (1, 0, 1, 0))
                self.bad(place, clerk, (0,) * (place + 1))
                self.assertEqual(led(LOAF, clerk, (1, 1, 1)[:place]), led(LOAF, honest, (1, 1, 1)[:place]))
        for thing in odd_things():
            self.bad(0, lambda slips, closing: (0, thing), (1,))
            self.bad(1, lambda slips, closing: (thing, 0) if len(slips) == 2 else (0, 0), (1, 1))

    def test_wrong_last_marks(self):
        for thing in NO_MARKS + odd_things():
            for many in (0, 1, 3, 30):
                self.bad(many, lambda slips, closing: thing if closing else honest(slips, closing), (1,) * many)

    def test_the_first_place(self):
        def clerk(slips, closing):
            if closing or len(slips) in (2, 4):
                return None
            if len(slips) == 5:
                raise OwnError()
            return 0, 0

        self.bad(1, clerk, (0, 0, 0, 0, 0))
        self.bad(1, clerk, (1, 1))
        self.bad(1, clerk, (0, 0, 0, 0))
        self.bad(1, lambda slips, closing: clerk(slips, closing), (1, 1))
        self.bad(0, lambda slips, closing: True, (0, 1))
        self.bad(0, lambda slips, closing: 0, (0, 1))
        # For closing a last mark alone, for a slip a pair alone.
        self.bad(2, lambda slips, closing: (0, 0), (0, 1))

    def test_own_errors(self):
        for error in (OwnError(), KeyError(1), NoSlips(), NoClerk(7), NoStep(), StopIteration(), ZeroDivisionError()):
            def clerk(slips, closing):
                if slips == (0, 1) and not closing:
                    raise error
                return honest(slips, closing)

            def at_closing(slips, closing):
                if closing:
                    raise error
                return honest(slips, closing)

            for call in (lambda: led(LOAF, clerk, (0, 1, 1)), lambda: led(LOAF, at_closing, (0, 1)),
                         lambda: caught(LOAF, clerk, 3), lambda: caught(LOAF, at_closing, 0)):
                with self.assertRaises(type(error)) as told:
                    call()
                self.assertIs(told.exception, error)
            self.assertEqual(led(LOAF, clerk, (1, 1)), led(LOAF, honest, (1, 1)))
            self.assertIsNone(caught(LOAF, clerk, 1))

    def test_wrong_slips(self):
        for thing in odd_things() + [[0], (2,), (0, -1), (True,), (0, False), ("0",), 0, 5, "01", ((0,),), {0: 0}]:
            if thing != ():
                self.assertRaises(NoSlips, led, LOAF, honest, thing)
                self.assertRaises(NoSlips, led, LOAF, lambda slips, closing: None, thing)
        for thing in odd_things():
            self.assertRaises(NoSlips, led, LOAF, honest, (0, thing))
        self.assertRaises(NoSlips, led, NOBODY, greedy, (1,))

    def test_long_rows(self):
        for many in (200, 230):
            self.assertEqual(led(LOAF, honest, (1,) * many), served(LOAF, (1,) * many))
            self.assertIs(is_true(LOAF, led(LOAF, greedy, (1,) * many)), False)

    def test_offices_that_were_returned(self):
        office = wide_office((6, 7, 5), (tuple((slip, 6, 4, 0) for slip in range(6)),), ((4,),))
        self.assertEqual(led(office, lambda slips, closing: 4 if closing else (6, 4), (5, 0)),
                         (((5, 6, 4), (0, 6, 4)), 4))
        self.assertIsNone(caught(office, lambda slips, closing: 4 if closing else (6, 4), 2))
        self.bad(1, lambda slips, closing: 5 if closing else (6, 4 + len(slips) // 2), (5, 5), office)
        self.assertEqual(led(SIXTY_ONE, lambda slips, closing: 3 if closing else (3, 3), (3,)), (((3, 3, 3),), 3))


class CaughtTest(unittest.TestCase):
    def test_own_words(self):
        self.assertEqual(caught(LOAF, greedy, 2), ((1, 1), (((1, 0, 0), (1, 0, 0)), 0), [(0, 1)]))
        self.assertEqual(caught(LOAF, greedy, 3), ((0, 1, 1), (((0, 1, 0), (1, 0, 0), (1, 0, 0)), 0), [(1, 2)]))
        for many in range(6):
            self.assertIsNone(caught(LOAF, honest, many))
        self.assertIsNone(caught(LOAF, greedy, 0))
        self.assertIsNone(caught(LOAF, greedy, 1))
        self.assertEqual(caught(LOAF, greedy, 5)[:2],
                         ((0, 0, 0, 1, 1), (((0, 1, 0),) * 3 + ((1, 0, 0),) * 2, 0)))
        self.assertEqual(caught(HUNG_UP, lambda slips, closing: 1 if closing else (0, 0), 0), ((), ((), 1), [()]))
        self.assertEqual(caught(NEVER, lambda slips, closing: 0 if closing else (0, 0), 1),
                         ((0,), (((0, 0, 0),), 0), [()]))

    def test_against_all_rows(self):
        rng = random.Random(403)
        seen = {"none": 0, "false": 0, "error": 0}
        for office in [LOAF, HUNG_UP, FORKED, NEVER, NOBODY, echo_office(1)] + small_offices(120, 404):
            for many in range(3 if len(office.sizes) * office.sizes[0] > 6 else 4):
                for wrong, build in ((0, near_table), (0.05, near_table), (0.05, random_table)):
                    clerk = clerk_of(build(rng, office, many, wrong))
                    right = outcome(slow_caught, office, clerk, many)
                    self.assertEqual(outcome(caught, office, clerk, many), right)
                    seen["none" if right is None else "error" if right[0] is NoClerk else "false"] += 1
        self.assertGreater(min(seen.values()), 40)

    def test_like_seeing(self):
        rng = random.Random(405)
        for office in small_offices(60, 406):
            clerk = clerk_of(random_table(rng, office, 3, 0))
            told = caught(office, clerk, 3)
            if told is not None:
                slips, day, lots = told
                self.assertEqual(tuple(step[0] for step in day[0]), slips)
                self.assertEqual(day, led(office, clerk, slips))
                self.assertFalse(is_true(office, day))
                self.assertEqual(lots, seeing(office, day))
                self.assertIs(type(lots), list)
                lots.clear()
                self.assertEqual(caught(office, clerk, 3)[2], seeing(office, day))

    def test_least_row(self):
        def clerk(false_row, wrong_row, error_row=None):
            def gives(slips, closing):
                if slips == error_row:
                    raise OwnError()
                if closing and slips == wrong_row:
                    return None
                if not closing and slips == false_row:
                    return 0, 0
                return honest(slips, closing)
            return gives

        day = (((0, 1, 0), (0, 0, 0)), 0)
        self.assertEqual(caught(LOAF, clerk((0, 0), (0, 1)), 2), ((0, 0), day, [(1,)]))
        self.assertEqual(caught(LOAF, clerk((0, 0), (1, 1), (1, 0)), 2), ((0, 0), day, [(1,)]))
        for wrong in ((0, 0), (0, 1)):
            with self.assertRaises(NoClerk) as error:
                caught(LOAF, clerk((1, 1), wrong), 2)
            self.assertEqual(error.exception.place, 2)
        with self.assertRaises(NoClerk) as error:
            caught(LOAF, clerk((0, 0), (0, 0)), 2)
        self.assertEqual(error.exception.place, 2)
        self.assertRaises(OwnError, caught, LOAF, clerk((0, 1), (1, 0), (0, 0)), 2)
        self.assertRaises(OwnError, caught, LOAF, clerk((1, 0), (1, 1), (0, 1)), 2)
        # A row of fewer people is none of these.
        self.assertIsNone(caught(LOAF, clerk((), (0,)), 2))
        # A place at which some lesser row was right.
        with self.assertRaises(NoClerk) as error:
            caught(LOAF, lambda slips, closing: None if slips == (1,) else honest(slips, closing), 4)
        self.assertEqual(error.exception.place, 0)

    def test_honest_clerks(self):
        for office in [LOAF, HUNG_UP, echo_office(1), echo_office(2)]:
            self.assertTrue(is_sure(office))

            def clerk(slips, closing):
                steps, last = served(office, slips)
                return last if closing else steps[-1][1:]

            for many in range(6):
                self.assertIsNone(caught(office, clerk, many))

    def test_five_people_and_four_slips(self):
        office = Office((4, 4, 1), (tuple((slip, slip, 0, 0) for slip in range(4)),), ((0,),))
        self.assertIsNone(caught(office, lambda slips, closing: 0 if closing else (slips[-1], 0), 5))
        told = caught(office, lambda slips, closing: 0 if closing else (min(slips[-1], 6 - len(slips)), 0), 5)
        self.assertEqual(told, ((0, 0, 0, 0, 2), (((0, 0, 0),) * 4 + ((2, 1, 0),), 0), [(4,)]))

    def test_no_bound_of_the_reader(self):
        self.assertEqual(caught(SIXTY_ONE, lambda slips, closing: 0 if closing else (3, 3), 1),
                         ((3,), (((3, 3, 3),), 0), seeing(SIXTY_ONE, (((3, 3, 3),), 0))))
        self.assertIsNone(caught(SIXTY_ONE, lambda slips, closing: 0 if closing else (0, 0), 1))

    def test_no_numbers(self):
        for thing in odd_things() + [6, "1", (1,), 7]:
            self.assertRaises(NoNumber, caught, LOAF, greedy, thing)
            self.assertRaises(NoNumber, caught, LOAF, lambda slips, closing: None, thing)


if __name__ == "__main__":
    unittest.main()
