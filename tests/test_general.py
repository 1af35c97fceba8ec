"""0.2 to 0.5: what holds for all functions: arguments stay, answers are equal and new, nothing is too deep."""

import copy
import unittest

from falsedays.alone import is_learning, learning, left
from falsedays.errors import FalseError
from falsedays.facts import holds, is_fact, known
from falsedays.neighbours import (crossing, enough, is_crossing, is_paper, is_round, least_k, paper, round_of)
from falsedays.offices import Office, board, is_day, is_true, notes, some_true, true_days
from falsedays.readers import reader, stand
from falsedays.tales import is_tale, least_tale, seeing, tale, unseen
from tests.helpers import (FORKED, HUNG_UP, LOAF, SIXTY_ONE, clock_office, echo_office, nested, odd_things,
                           slow_is_crossing, slow_is_round, slow_is_true, small_offices, wide_office)

DAY = (((1, 0, 0), (1, 0, 0)), 0)
FACT = (((0, 0, 1, 0), (1, 1, 1, 1)), (1,))
STEPS = ((0, 1, 0), (1, 0, 0))

CALLS = [(is_day, (DAY,)), (is_true, (DAY,)), (notes, (DAY,)), (board, (DAY,)), (true_days, (3,)), (some_true, (9,)),
         (reader, ()), (stand, (STEPS,)), (tale, (DAY, (0,))), (least_tale, (DAY, (0,))), (is_tale, (DAY, (0,), DAY)),
         (unseen, (DAY, 1)), (seeing, (DAY,)), (is_fact, (FACT,)), (holds, (FACT, DAY)), (known, (FACT, DAY, ())),
         (enough, (1,)), (least_k, ()), (crossing, (2,)), (is_crossing, (1, DAY)), (round_of, ()), (is_round, (DAY,)),
         (paper, (1,)), (is_paper, (1, DAY)), (left, (((0, 0), 0), 0, (1, 0))), (learning, ()), (is_learning, (DAY,))]


class GeneralTest(unittest.TestCase):
    def test_equal_calls_and_unchanged_arguments(self):
        for function, arguments in CALLS:
            office = Office(LOAF.sizes, LOAF.moves, LOAF.closings)
            before = copy.deepcopy(arguments)
            first = function(office, *arguments)
            again = function(office, *arguments)
            self.assertEqual(first, again, function)
            self.assertEqual(repr(arguments), repr(before))
            self.assertTrue(office == LOAF)
            self.assertEqual(sorted(vars(office)), ["closings", "moves", "sizes"])

    def test_lists_are_new(self):
        for function, arguments in ((true_days, (2,)), (seeing, (DAY,))):
            first = function(LOAF, *arguments)
            self.assertIsInstance(first, list)
            self.assertGreater(len(first), 0)
            kept = list(first)
            first.append(None)
            self.assertEqual(function(LOAF, *arguments), kept)

    def test_handed_in_lists_stay(self):
        sizes, moves, steps = [1, 1, 1], [[(0, 0, 0, 0)]], [[0, 0, 0]]
        for call in (lambda: Office(sizes, moves, [[0]]), lambda: stand(LOAF, steps), lambda: tale(LOAF, DAY, steps),
                     lambda: left(LOAF, (steps, 0), 0, (0, 0))):
            self.assertRaises(FalseError, call)
        self.assertEqual((sizes, moves, steps), ([1, 1, 1], [[(0, 0, 0, 0)]], [[0, 0, 0]]))

    def test_flags(self):
        for function, arguments in CALLS:
            if function.__name__.startswith("is_") or function in (unseen, holds, enough):
                self.assertIsInstance(function(LOAF, *arguments), bool)

    def test_judges_of_anything(self):
        for thing in odd_things() + [nested(0, deep) for deep in range(41)] + [nested((0, 0, 0), 38)]:
            for office in (LOAF, HUNG_UP, FORKED):
                self.assertIs(is_true(office, thing), False)
                self.assertIs(is_fact(office, thing), False)
                self.assertIs(is_tale(office, ((), 0), (), thing), False)
                self.assertIs(is_crossing(office, 200, thing), False)
                self.assertIs(is_round(office, thing), False)
                self.assertIs(is_paper(office, 1, thing), False)
                self.assertIs(is_paper(office, 200, thing), False)
                self.assertIs(is_learning(office, thing), False)

    def test_great_numbers(self):
        for number in (10 ** 39, 10 ** 40 - 1, -(10 ** 40 - 1)):
            self.assertIs(is_true(LOAF, (((number, 0, 0),), 0)), False)
            self.assertIs(is_true(LOAF, ((), number)), False)
            self.assertIs(is_fact(LOAF, (((0, 0, 0, number),), ())), False)
            self.assertIs(is_paper(HUNG_UP, 1, ((((0, number),),), ())), False)
            for call in (lambda k: true_days(LOAF, k), lambda k: some_true(LOAF, k), lambda k: unseen(LOAF, DAY, k),
                         lambda k: enough(LOAF, k), lambda k: left(LOAF, ((0,), 0), k, (0, 0))):
                self.assertRaises(FalseError, call, number)

    def test_offices_beyond_the_bounds_of_the_constructor(self):
        # 25 standings in a row, six slips, and at the last one a seventh answer.
        rows = tuple(((at % 6, 6, 4, at + 1),) for at in range(24)) + ((),)
        office = wide_office((6, 7, 5), rows, ((),) * 24 + ((4,),))
        steps = tuple((at % 6, 6, 4) for at in range(24))
        self.assertEqual(some_true(office, 24), (steps, 4))
        self.assertIs(is_true(office, (steps, 4)), True)
        self.assertEqual(stand(office, steps), 24)
        self.assertEqual(len(reader(office)[0]), 25)
        self.assertEqual(tale(office, (steps, 4), (0, 23)), (steps, 4))
        self.assertEqual(least_k(office), 1)
        self.assertEqual(left(office, ((4,) * 24, 4), 3, (3, 6)), 1)
        self.assertIs(is_fact(office, (((0,) * 210,), ())), True)

    def test_returned_days_may_be_passed_on(self):
        office = clock_office(15, 14)
        one, other, _ = crossing(office, 200)
        self.assertGreater(len(one[0]), 200)
        self.assertIs(is_true(office, one), True)
        self.assertEqual(least_tale(office, one, tuple(range(len(one[0])))), one)
        self.assertIs(is_crossing(office, 200, crossing(office, 200)), True)
        self.assertIs(is_learning(office, learning(office)), True)
        self.assertEqual(len(notes(office, other)), len(other[0]))

    def test_returned_kinds(self):
        # Only tuples, integers and strings stand in what is returned, so a judge takes it.
        def check(thing):
            if isinstance(thing, tuple):
                for part in thing:
                    check(part)
            else:
                self.assertIn(type(thing), (int, str, type(None)))
        for office in [LOAF, FORKED, HUNG_UP, echo_office(2)] + small_offices(40, 36):
            for thing in (reader(office), crossing(office, 1), round_of(office), paper(office, 2), learning(office),
                          some_true(office, 3), known(office, (((0,) * 8,), ()), ((), 0), ())
                          if office.sizes == (2, 2, 2) else 0):
                check(thing)

    def test_days_of_200_and_more(self):
        for many in (200, 230):
            steps = ((1, 0, 0),) + ((0, 1, 0),) * (many - 2) + ((1, 0, 0),)
            self.assertIs(is_true(LOAF, (steps, 0)), False)
            self.assertIs(unseen(LOAF, (steps, 0), 20), True)
            self.assertEqual(stand(LOAF, steps), -1)
            found = tale(LOAF, (steps, 0), (many - 1,))
            self.assertTrue(slow_is_true(LOAF, found))
            self.assertEqual(known(LOAF, FACT, (steps, 0), (0,))[0], "yes")

    def test_long_crossings_and_rounds_are_judged(self):
        one = (((1, 0, 0),) + ((0, 1, 0),) * 150 + ((1, 1, 0),), 0)
        other = (((0, 1, 0),) * 151 + ((1, 0, 0),), 0)
        for place in (1, 150, 151):
            thing = (one, other, place)
            self.assertIs(is_crossing(LOAF, place, thing), True)
            self.assertTrue(slow_is_crossing(LOAF, place, thing))
            self.assertIs(is_crossing(LOAF, place + 1, thing), False)
        turn = (one[0][:1], other[0][:1], ((0, 1, 0),) * 100, ((0, 1, 0),) * 100, ((1, 1, 0),), ((1, 0, 0),), 0)
        self.assertIs(is_round(LOAF, turn), True)
        self.assertTrue(slow_is_round(LOAF, turn))

    def test_too_many_only_where_named(self):
        day = (((0, 0, 0),), 0)
        for function, arguments in [(is_day, (day,)), (is_true, (day,)), (notes, (day,)), (board, (day,)),
                                    (true_days, (1,)), (some_true, (1,)), (tale, (day, ())), (least_tale, (day, ())),
                                    (is_tale, (day, (), day)), (unseen, (day, 1)), (seeing, (day,)),
                                    (is_fact, (None,)), (holds, ((((0,) * 64,), ()), day)),
                                    (known, ((((0,) * 64,), ()), day, ())), (is_crossing, (1, (day, day, 1))),
                                    (is_learning, ((day, day, 0),))]:
            function(SIXTY_ONE, *arguments)


if __name__ == "__main__":
    unittest.main()
