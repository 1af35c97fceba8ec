"""1.1 to 1.3, 0.2 to 0.5: offices, days, and which are true."""

import random
import unittest

from falsedays.errors import BadOffice, NoDay, NoNumber, TooMany
from falsedays.offices import Office, board, is_day, is_true, notes, some_true, true_days
from tests.helpers import (FORKED, HUNG_UP, LOAF, NEVER, NOBODY, SIXTY_ONE, all_days, echo_office,
                           is_ascending_of, is_whole, odd_things, random_office, slow_behind, slow_is_day,
                           slow_is_true, slow_true_days, small_offices, twisted, wide_office)

SIZES = (2, 2, 1)
MOVES = (((0, 1, 0, 0), (1, 0, 0, 1)), ((0, 1, 0, 1), (1, 1, 0, 1)))
CLOSINGS = ((0,), (0,))


class OfficeTest(unittest.TestCase):
    def bad(self, part, sizes, moves, closings):
        with self.assertRaises(BadOffice) as caught:
            Office(sizes, moves, closings)
        self.assertEqual(caught.exception.part, part)
        self.assertEqual(vars(caught.exception), {"part": part})

    def test_attributes(self):
        self.assertEqual((LOAF.sizes, LOAF.moves, LOAF.closings), (SIZES, MOVES, CLOSINGS))
        self.assertEqual(list(vars(LOAF)), ["sizes", "moves", "closings"])

    def test_least_and_greatest(self):
        self.assertEqual(Office((1, 1, 1), ((),), ((),)).moves, ((),))
        self.assertEqual(Office((4, 4, 4), ((),) * 20, ((0, 1, 2, 3),) * 20).closings, ((0, 1, 2, 3),) * 20)
        row = tuple((s, a, m, g) for s in range(4) for a in range(4) for m in range(4) for g in range(20))
        self.assertEqual(Office((4, 4, 4), (row,) * 20, ((),) * 20).moves, (row,) * 20)

    def test_sizes(self):
        for sizes in [(0, 1, 1), (1, 0, 1), (1, 1, 0), (5, 1, 1), (1, 5, 1), (1, 1, 5), (1, 1), (1, 1, 1, 1), [1, 1, 1],
                      (True, 1, 1), (1, True, 1), (1, 1, True), (1, 1, "1"), (-1, 1, 1), (1, 1, None), (1, [1], 1),
                      (10 ** 39, 1, 1)]:
            self.bad("sizes", sizes, ((),), ((),))
        for thing in odd_things():
            self.bad("sizes", thing, ((),), ((),))
            self.bad("sizes", thing, thing, thing)
            self.bad("sizes", (1, 1, thing), ((),), ((),))

    def test_moves(self):
        for moves in [(), ((),) * 21, [()], ([],), (((0, 0, 0, 1),),), (((0, 0, 0, 0), (0, 0, 0, 0)),),
                      (((1, 0, 0, 0), (0, 0, 0, 0)),), (((0, 0, 0),),), (((0, 0, 0, 0, 0),),), (([0, 0, 0, 0],),),
                      (((2, 0, 0, 0),),), (((0, 2, 0, 0),),), (((0, 0, 1, 0),),), (((0, 0, 0, -1),),),
                      (((-1, 0, 0, 0),),), (((False, 0, 0, 0),),), (((0, 0, 0, False),),), ((0, 0, 0, 0),),
                      (((0, 0, 0, 0), None),), (((0, 0, "0", 0),),), (((0, 0, 0, (0,)),),)]:
            self.bad("moves", (2, 2, 1), moves, ((),) * len(moves))
        for thing in odd_things():
            if thing != ((),) and thing != ((), (), ()):
                self.bad("moves", (2, 2, 1), thing, ((),))
                self.bad("moves", (2, 2, 1), thing, thing)
            self.bad("moves", (2, 2, 1), (thing,), ((),))
            self.bad("moves", (2, 2, 1), ((thing,),), ((),))
            self.bad("moves", (2, 2, 1), (((0, 0, 0, thing),),), ((),))

    def test_closings(self):
        for closings in [(), ((), ()), [()], ([],), ((2,),), ((-1,),), ((0, 0),), ((1, 0),), ((0, 1, 2),), ((True,),),
                         ((False,),), (0,), ("",), ((None,),), ((0, "1"),), (((0,),),), ({},)]:
            self.bad("closings", (1, 1, 2), ((),), closings)
        for thing in odd_things():
            if thing != ((),):
                self.bad("closings", (1, 1, 2), ((),), thing)
            self.bad("closings", (1, 1, 2), ((),), (thing,))
            self.bad("closings", (1, 1, 2), ((),), ((0, thing),))
        self.bad("closings", (1, 1, 1), ((), ()), ((0,),))

    def test_one_bad_row_among_right_ones(self):
        for moves in [(((0, 1, 0, 0),), ((0, 1, 0, 2),)), (((0, 1, 0, 2),), ((0, 1, 0, 0),)), ((), [], ()),
                      (((0, 1, 0, 0),), ((1, 1, 0, 0), (0, 1, 0, 0))), (((0, 1, 0, 0), (0, 2, 0, 0)), ())]:
            self.bad("moves", (2, 2, 1), moves, ((),) * len(moves))
        for closings in [((0,), (0, 2)), ((0, 2), (0,)), ((0, 1), (1, 0)), ((1, 1), ()), ((), [])]:
            self.bad("closings", (2, 2, 2), ((), ()), closings)

    def test_twisted_moves_and_closings(self):
        def is_row(row, sizes):
            return is_ascending_of(row, lambda move: isinstance(move, tuple) and len(move) == 4 and all(
                is_whole(part) and 0 <= part < size for part, size in zip(move, sizes)))

        for moves in twisted(MOVES):
            right = isinstance(moves, tuple) and moves and all(is_row(row, SIZES + (len(moves),)) for row in moves)
            if right:
                self.assertEqual(Office(SIZES, moves, ((),) * len(moves)).moves, moves)
            else:
                self.bad("moves", SIZES, moves, CLOSINGS)
        for closings in twisted(((0, 2), (), (1,))):
            right = isinstance(closings, tuple) and len(closings) == 3 and all(
                is_ascending_of(row, lambda mark: is_whole(mark) and 0 <= mark < 3) for row in closings)
            if right:
                self.assertEqual(Office((1, 1, 3), ((),) * 3, closings).closings, closings)
            else:
                self.bad("closings", (1, 1, 3), ((),) * 3, closings)

    def test_first_bad_part(self):
        self.bad("sizes", (0, 1, 1), (), ())
        self.bad("moves", (1, 1, 1), (), None)
        self.bad("moves", (1, 1, 1), [()], [()])

    def test_twisted(self):
        for sizes in twisted(SIZES):
            # Written out, so that (2, 2, True) is not taken for the sizes.
            if repr(sizes) in ("(2, 2, 1)", "(3, 2, 1)", "(2, 3, 1)", "(2, 2, 2)"):
                self.assertEqual(Office(sizes, MOVES, CLOSINGS).sizes, sizes)
            else:
                with self.assertRaises(BadOffice):
                    Office(sizes, MOVES, CLOSINGS)

    def test_equal(self):
        self.assertTrue(LOAF == Office(SIZES, MOVES, CLOSINGS))
        self.assertFalse(LOAF != Office(SIZES, MOVES, CLOSINGS))
        self.assertFalse(LOAF == Office((3, 2, 1), MOVES, CLOSINGS))
        self.assertFalse(LOAF == Office(SIZES, MOVES[:1] + ((),), CLOSINGS))
        self.assertFalse(LOAF == Office(SIZES, MOVES, ((0,), ())))
        for thing in odd_things() + [(SIZES, MOVES, CLOSINGS)]:
            self.assertIs(LOAF == thing, thing is LOAF)
        self.assertTrue(LOAF == wide_office(SIZES, MOVES, CLOSINGS))


class DayTest(unittest.TestCase):
    def test_is_day(self):
        for day in [((), 0), (((1, 1, 0),), 0), (((0, 0, 0), (1, 1, 0), (1, 0, 0)), 0)]:
            self.assertIs(is_day(LOAF, day), True)
        self.assertIs(is_day(LOAF, (((1, 1, 0),) * 200, 0)), True)
        for day in [((), 1), ((), -1), ((), False), ([], 0), [(), 0], ((),), ((), 0, 0), (((2, 0, 0),), 0),
                    (((0, 2, 0),), 0), (((0, 0, 1),), 0), (((-1, 0, 0),), 0), (((True, 0, 0),), 0), (([0, 0, 0],), 0),
                    (((0, 0),), 0), (((0, 0, 0, 0),), 0), ((0, 0, 0), 0), (((0, 0, 0), None), 0), ("", 0), ({}, 0)]:
            self.assertIs(is_day(LOAF, day), False, day)

    def test_is_day_of_anything(self):
        for thing in odd_things():
            for office in (LOAF, NOBODY, SIXTY_ONE):
                self.assertIs(is_day(office, thing), False)
                self.assertIs(is_true(office, thing), False)
                self.assertIs(is_day(office, (thing, 0)), False)
                self.assertIs(is_day(office, ((), thing)), False)
                self.assertIs(is_day(office, ((thing,), 0)), False)
                self.assertIs(is_true(office, (((0, 0, thing),), 0)), False)

    def test_is_day_twisted(self):
        for office in (LOAF, FORKED, HUNG_UP):
            for thing in twisted((((0, 1, 0), (1, 0, 0)), 0)):
                self.assertIs(is_day(office, thing), slow_is_day(office, thing))
                self.assertIs(is_true(office, thing), slow_is_true(office, thing))

    def test_notes_and_board(self):
        day = (((1, 0, 1), (0, 1, 0), (1, 1, 1)), 0)
        self.assertEqual(notes(FORKED, day), ((1, 0), (0, 1), (1, 1)))
        self.assertEqual(board(FORKED, day), ((1, 0, 1), 0))
        self.assertEqual(notes(FORKED, ((), 1)), ())
        self.assertEqual(board(FORKED, ((), 1)), ((), 1))
        self.assertIsInstance(notes(FORKED, day), tuple)
        self.assertIsInstance(board(FORKED, day)[0], tuple)

    def test_no_day(self):
        for thing in odd_things() + [((), 2), (((2, 0, 0),), 0), ([], 0), [(), 0], (((0, 0, True),), 0)]:
            self.assertRaises(NoDay, notes, FORKED, thing)
            self.assertRaises(NoDay, board, FORKED, thing)


class TrueTest(unittest.TestCase):
    def test_e01(self):
        self.assertIs(is_true(LOAF, (((1, 0, 0), (1, 1, 0)), 0)), True)
        self.assertIs(is_true(LOAF, (((1, 0, 0), (1, 0, 0)), 0)), False)

    def test_all_days(self):
        for office in [LOAF, HUNG_UP, NOBODY, NEVER, FORKED] + small_offices(30, 1, 4):
            for many in range(4 if len(list(all_days(office, 1))) < 9 else 3):
                true = slow_true_days(office, many)
                self.assertEqual(true_days(office, many), true)
                for day in all_days(office, many):
                    self.assertIs(is_true(office, day), day in true)

    def test_closing_of_another_standing(self):
        office = Office((1, 1, 2), (((0, 0, 0, 1),), ()), ((0,), (1,)))
        self.assertEqual([day for many in range(3) for day in true_days(office, many)], [((), 0), (((0, 0, 0),), 1)])

    def test_long_day(self):
        self.assertIs(is_true(LOAF, (((1, 0, 0),) + ((1, 1, 0),) * 199, 0)), True)
        self.assertIs(is_true(LOAF, (((1, 1, 0),) + ((1, 1, 0),) * 199, 0)), False)

    def test_e02(self):
        self.assertEqual(true_days(LOAF, 1), [(((0, 1, 0),), 0), (((1, 0, 0),), 0)])

    def test_true_days_numbers(self):
        self.assertEqual(true_days(NOBODY, 0), [((), 0)])
        self.assertEqual(true_days(NOBODY, 6), [])
        self.assertEqual(true_days(NEVER, 6), [])
        self.assertEqual(len(true_days(LOAF, 6)), 64)
        for many in odd_things() + [7, (0,), (0, 1), "1", [1]]:
            self.assertRaises(NoNumber, true_days, LOAF, many)
            self.assertRaises(NoNumber, true_days, FORKED, many)

    def test_order(self):
        for many in range(7):
            days = true_days(LOAF, many)
            self.assertEqual(days, sorted(days))
        # Both last marks of one row of steps stand beside one another.
        office = Office((1, 1, 3), (((0, 0, 0, 0), (0, 0, 2, 0)),), ((0, 2),))
        self.assertEqual(true_days(office, 1),
                         [(((0, 0, 0),), 0), (((0, 0, 0),), 2), (((0, 0, 2),), 0), (((0, 0, 2),), 2)])

    def test_just_2000(self):
        # 1000 rows of slips for four people, twice as many days by two last marks.
        office = self.counted(2)
        self.assertEqual(len(true_days(office, 6)), 2000)
        self.assertEqual(true_days(office, 6), sorted(true_days(office, 6)))

    def counted(self, last_steps):
        """4 * 5 * 5 * 5 * 2 * 2 days of six people, or the same with one way more at the end."""
        def ways(many, at):
            return tuple(sorted((slip, answer, mark, at + 1) for slip in range(4) for answer in range(4)
                                for mark in range(4)))[:many]
        rows = tuple(ways(many, at) for at, many in enumerate((4, 5, 5, 5, 2, 2)))
        if last_steps == 2:
            return Office((4, 4, 4), rows + ((),), ((),) * 6 + ((0,),))
        extra = rows[:1] + rows[1:] + ((),)
        first = ((3, 3, 3, 7),)
        path = tuple(((0, 0, 0, at + 1),) for at in range(7, 11)) + (((0, 0, 0, 6),),)
        return Office((4, 4, 4), (extra[0] + first,) + extra[1:] + path, ((),) * 6 + ((0,),) + ((),) * 5)

    def test_just_2001(self):
        office = self.counted(3)
        self.assertEqual(slow_behind(office, ((3, 3, 3),) + ((0, 0, 0),) * 5), {6})
        with self.assertRaises(TooMany) as caught:
            true_days(office, 6)
        self.assertEqual(caught.exception.most, 2000)
        self.assertEqual(true_days(office, 5), [])

    def test_too_many_by_last_marks(self):
        rows = tuple((slip, answer, mark, 0) for slip in range(4) for answer in range(4) for mark in range(4))
        office = Office((4, 4, 4), (rows[:10],), ((0, 1),))
        self.assertEqual(len(true_days(office, 2)), 200)
        self.assertEqual(len(true_days(office, 3)), 2000)
        self.assertRaises(TooMany, true_days, Office((4, 4, 4), (rows[:10],), ((0, 1, 2),)), 3)
        self.assertRaises(TooMany, true_days, office, 4)
        self.assertRaises(TooMany, true_days, Office((4, 4, 4), (rows,), ((0, 1, 2, 3),)), 6)
        self.assertRaises(NoNumber, true_days, office, 7)

    def test_many_begins_that_lead_nowhere(self):
        # More than 2000 rows of five steps are no begins of true days of six people.
        rows = tuple((slip, answer, mark, 0) for slip in range(4) for answer in range(4) for mark in range(2))
        office = Office((4, 4, 4), (rows + ((3, 3, 3, 1),), ((0, 0, 0, 2),), ((0, 0, 0, 3),), ((0, 0, 0, 4),),
                                    ((0, 0, 0, 5),), ((0, 0, 0, 6),), ()), ((),) * 6 + ((0,),))
        self.assertEqual(true_days(office, 6), [(((3, 3, 3),) + ((0, 0, 0),) * 5, 0)])

    def test_unlike_moves_of_one_day_count_once(self):
        office = Office((1, 1, 1), (((0, 0, 0, 0), (0, 0, 0, 1)), ((0, 0, 0, 0), (0, 0, 0, 1))), ((0,), (0,)))
        self.assertEqual(true_days(office, 6), [(((0, 0, 0),) * 6, 0)])

    def test_new_lists(self):
        days = true_days(LOAF, 2)
        days.clear()
        self.assertEqual(len(true_days(LOAF, 2)), 4)
        self.assertIsNot(true_days(LOAF, 2), true_days(LOAF, 2))


class SomeTrueTest(unittest.TestCase):
    def test_some_true(self):
        for office in [LOAF, HUNG_UP, NOBODY, NEVER, FORKED] + small_offices(60, 2, 4):
            for many in range(4):
                day = some_true(office, many)
                if day is None:
                    self.assertEqual(slow_true_days(office, many), [])
                else:
                    self.assertTrue(slow_is_true(office, day))
                    self.assertEqual(len(day[0]), many)

    def test_many_people(self):
        for office in (LOAF, HUNG_UP, FORKED, echo_office(4)):
            for many in (0, 1, 60, 199, 200):
                day = some_true(office, many)
                self.assertEqual(len(day[0]), many)
                self.assertTrue(slow_is_true(office, day))
                self.assertEqual(some_true(office, many), day)
        self.assertIsNone(some_true(NEVER, 200))
        self.assertIsNone(some_true(NOBODY, 1))
        self.assertEqual(some_true(NOBODY, 0), ((), 0))

    def test_turns(self):
        # A day ends only behind each third comer.
        office = Office((1, 1, 1), (((0, 0, 0, 1),), ((0, 0, 0, 2),), ((0, 0, 0, 0),)), ((0,), (), ()))
        for many in range(201):
            self.assertEqual(some_true(office, many) is None, many % 3 != 0)

    def test_no_number(self):
        for many in odd_things() + [201, (0,), "1", [1], True]:
            self.assertRaises(NoNumber, some_true, LOAF, many)
            self.assertRaises(NoNumber, some_true, NEVER, many)

    def test_not_bounded_by_the_reader(self):
        self.assertTrue(slow_is_true(SIXTY_ONE, some_true(SIXTY_ONE, 1)))
        self.assertEqual(len(true_days(SIXTY_ONE, 1)), 60)
        rng = random.Random(3)
        office = random_office(rng, (2, 2, 2), 20, 1.2)
        day = some_true(office, 200)
        self.assertTrue(slow_is_true(office, day))
        self.assertIs(is_true(office, day), True)


if __name__ == "__main__":
    unittest.main()
