"""5.1 and 5.2: whose slip can be shown, and whose slip the board settles."""

import random
import unittest

from falsedays.errors import NoBoard, NoDay, NoNumber
from falsedays.offices import Office, some_true
from falsedays.proving import (can_prove, forging, indiscreet, is_forging, is_indiscreet, settled, shown_places)
from tests.helpers import (FORKED, HUNG_UP, LOAF, NEVER, NO_BOARDS, NO_DAYS, NOBODY, SIXTY_ONE, all_boards, all_days,
                           clock_office, echo_office, is_whole, odd_things, random_office, slow_board, slow_is_true,
                           slow_on_board, slow_true_days, small_offices, twisted, two_ends_office)

NAMED = [LOAF, HUNG_UP, NOBODY, NEVER, FORKED, SIXTY_ONE, echo_office(1), echo_office(3), two_ends_office(1),
         clock_office(4, 3)]
FALSE_DAY = (((1, 0, 0), (1, 0, 0)), 0)
# The mark of the fourth comer tells the first slip, those of all behind their own slips.
LATE = Office((2, 1, 2), (((0, 0, 0, 1), (1, 0, 0, 2)), ((0, 0, 0, 3), (1, 0, 0, 3)), ((0, 0, 0, 4), (1, 0, 0, 4)),
                          ((0, 0, 0, 5), (1, 0, 0, 5)), ((0, 0, 0, 6), (1, 0, 0, 6)), ((0, 0, 0, 7), (1, 0, 0, 7)),
                          ((0, 0, 1, 7), (1, 0, 1, 7)), ((0, 0, 0, 7), (1, 0, 1, 7))),
              ((),) * 7 + ((0, 1),))


def deep_forks(far, marks=2):
    """The mark so far ahead of the last comer: 2 ** far sets of standings by the marks alone; all slips are free."""
    moves = [[(slip, 0, mark, 0) for slip in (0, 1) for mark in range(marks)]]
    moves[0] += [(slip, 0, 1, 1) for slip in (0, 1)]
    for at in range(1, far + 1):
        moves.append([(slip, 0, mark, at + 1) for slip in (0, 1) for mark in range(marks)])
    moves.append([])
    return Office((2, 1, marks), tuple(tuple(sorted(row)) for row in moves), ((),) * (far + 1) + ((0,),))


def slow_is_forging(office, thing):
    if not isinstance(thing, tuple) or len(thing) != 3 or not is_whole(thing[2]):
        return False
    one, other, place = thing
    if not slow_is_true(office, one) or not slow_is_true(office, other) or slow_board(one) != slow_board(other):
        return False
    if not 0 <= place < len(one[0]):
        return False
    return one[0][place][1] == other[0][place][1] and one[0][place][0] != other[0][place][0]


def slow_can_prove(true, day, place):
    return all(other[0][place][0] == day[0][place][0] for other in true
               if slow_board(other) == slow_board(day) and other[0][place][1] == day[0][place][1])


def slow_settled(true, the_board):
    found = []
    for place in range(len(the_board[0])):
        slips = {day[0][place][0] for day in slow_on_board(true, the_board)}
        if len(slips) == 1:
            found.append((place, slips.pop()))
    return found


def slow_is_indiscreet(office, thing):
    if not isinstance(thing, tuple) or len(thing) != 2 or not is_whole(thing[1]) or not slow_is_true(office, thing[0]):
        return False
    day, place = thing
    marks, last = slow_board(day)
    many = len(marks)
    return 0 <= place < many and (place, day[0][place][0]) in slow_settled(slow_true_days(office, many),
                                                                          (tuple(marks), last))


class ForgingTest(unittest.TestCase):
    def test_e09(self):
        self.assertIsNone(forging(HUNG_UP))
        self.assertIs(can_prove(LOAF, (((1, 0, 0),), 0), 0), True)

    def test_found_ones(self):
        many = 0
        for office in NAMED + [LATE] + small_offices(300, 41, 4):
            found = forging(office)
            self.assertEqual(forging(office), found)
            if found is None:
                continue
            many += 1
            self.assertTrue(slow_is_forging(office, found))
            self.assertIs(is_forging(office, found), True)
            one, other, place = found
            self.assertIs(can_prove(office, one, place), False)
            self.assertIs(can_prove(office, other, place), False)
            self.assertNotIn(place, shown_places(office, one))
        self.assertGreater(many, 60)

    def test_none_exactly_where_all_can_prove(self):
        both = {True: 0, False: 0}
        for office in [LOAF, HUNG_UP, NOBODY, NEVER, FORKED, LATE] + small_offices(120, 42, 2):
            all_shown = all(can_prove(office, day, place) for many in range(4)
                            for day in slow_true_days(office, many)[::3] for place in range(many))
            if forging(office) is None:
                self.assertTrue(all_shown)
            if not all(slow_can_prove(slow_true_days(office, many), day, place) for many in range(4)
                       for day in slow_true_days(office, many) for place in range(many)):
                self.assertIsNotNone(forging(office))
            both[forging(office) is None] += 1
        self.assertTrue(min(both.values()) > 20)

    def test_long_way_to_a_forging(self):
        for far in range(8):
            # Two ways of unlike slips that come together only behind so many steps, and a third one that never does.
            goal = 2 * far + 3
            moves = [((0, 0, 0, 1), (1, 0, 0, 2))]
            for at in range(far):
                moves += [((0, 0, 0, 2 * at + 3),), ((0, 0, 0, 2 * at + 4),)]
            joined = Office((2, 2, 1), tuple(moves + [((0, 0, 0, goal),), ((0, 0, 0, goal),), ()]),
                            ((),) * goal + ((0,),))
            found = forging(joined)
            self.assertTrue(slow_is_forging(joined, found))
            self.assertEqual((len(found[0][0]), found[2]), (far + 2, 0))
            parted = Office((2, 2, 2), tuple(moves + [((0, 0, 0, goal),), ((0, 0, 1, goal),), ()]),
                            ((),) * goal + ((0,),))
            self.assertIsNone(forging(parted))
            unlike = Office((2, 2, 1), tuple(moves + [((0, 0, 0, goal),), ((0, 0, 0, goal + 1),), (), ()]),
                            ((),) * goal + ((0,), ()))
            self.assertIsNone(forging(unlike))

    def test_last_marks_part(self):
        office = Office((2, 1, 2), (((0, 0, 0, 1), (1, 0, 0, 2)), (), ()), ((), (0,), (1,)))
        self.assertIsNone(forging(office))
        office = Office((2, 1, 2), (((0, 0, 0, 1), (1, 0, 0, 2)), (), ()), ((), (0, 1), (1,)))
        self.assertTrue(slow_is_forging(office, forging(office)))

    def test_is_forging_by_its_words(self):
        one, other = (((1, 0, 0), (1, 1, 0)), 0), (((0, 1, 0), (0, 1, 0)), 0)
        self.assertIs(is_forging(LOAF, (one, other, 1)), True)
        self.assertIs(is_forging(LOAF, (other, one, 1)), True)
        for place in (0, 2, -1, True, "1", None, (1,), 10 ** 39):
            self.assertIs(is_forging(LOAF, (one, other, place)), False)
        self.assertIs(is_forging(LOAF, (one, one, 1)), False)
        self.assertIs(is_forging(LOAF, (FALSE_DAY, other, 1)), False)
        self.assertIs(is_forging(LOAF, (one, (((0, 1, 0),), 0), 0)), False)
        self.assertIs(is_forging(LOAF, (((), 0), ((), 0), 0)), False)
        self.assertIs(is_forging(HUNG_UP, ((((0, 0, 0),), 0), (((1, 0, 1),), 0), 0)), False)
        self.assertIs(is_forging(LOAF, [one, other, 1]), False)

    def test_is_forging_of_anything(self):
        right = forging(LOAF)
        for thing in odd_things():
            for office in (LOAF, NOBODY, SIXTY_ONE):
                self.assertIs(is_forging(office, thing), False)
            for at in range(3):
                self.assertIs(is_forging(LOAF, right[:at] + (thing,) + right[at + 1:]), False)
        for office in [LOAF, FORKED, echo_office(2)] + small_offices(30, 43):
            found = forging(office)
            if found is not None:
                for thing in twisted(found):
                    self.assertIs(is_forging(office, thing), slow_is_forging(office, thing))

    def test_many_standings(self):
        rng = random.Random(44)
        for density in (0.1, 0.5, 1.2):
            for sizes in ((2, 2, 2), (4, 4, 4)):
                office = random_office(rng, sizes, 20, density)
                found = forging(office)
                self.assertTrue(found is None or slow_is_forging(office, found))
                silent = Office(office.sizes, office.moves, ((),) * 20)
                self.assertIsNone(forging(silent))
                self.assertIsNone(indiscreet(silent))


class ShownTest(unittest.TestCase):
    def test_against_all_true_days(self):
        for office in NAMED[:5] + NAMED[6:7] + [LATE] + small_offices(60, 45):
            for many in range(4):
                true = slow_true_days(office, many)
                for day in true[::5] + true[:3]:
                    right = [slow_can_prove(true, day, place) for place in range(many)]
                    self.assertEqual([can_prove(office, day, place) for place in range(many)], right)
                    shown = shown_places(office, day)
                    self.assertEqual(shown, tuple(place for place in range(many) if right[place]))
                    self.assertIsInstance(shown, tuple)

    def test_long_days(self):
        for many in (30, 200):
            day = (((0, 1, 0),) * (many - 1) + ((1, 0, 0),), 0)
            # The first comer would have got the loaf, the last one got it; those between may have come too late.
            self.assertEqual(shown_places(LOAF, day), (0, many - 1))
            self.assertIs(can_prove(LOAF, day, many - 1), True)
            self.assertIs(can_prove(LOAF, day, 1), False)
            self.assertEqual(shown_places(HUNG_UP, (((1, 0, 1),) * many, 0)), tuple(range(many)))
        self.assertEqual(shown_places(LOAF, ((), 0)), ())
        self.assertEqual(shown_places(LOAF, (((1, 0, 0),), 0)), (0,))

    def test_the_answer_counts(self):
        # Answer 0 is given for slip 1 alone, answer 1 for both.
        self.assertEqual(shown_places(LOAF, (((1, 0, 0), (1, 1, 0)), 0)), (0,))
        self.assertIs(can_prove(LOAF, (((1, 0, 0), (1, 1, 0)), 0), 0), True)
        self.assertIs(can_prove(LOAF, (((1, 0, 0), (1, 1, 0)), 0), 1), False)

    def test_wrong(self):
        for thing in odd_things() + NO_DAYS + [FALSE_DAY, (((0, 0, 0),), 0)]:
            self.assertRaises(NoDay, can_prove, LOAF, thing, 0)
            self.assertRaises(NoDay, can_prove, LOAF, thing, thing)
            self.assertRaises(NoDay, shown_places, LOAF, thing)
        for thing in odd_things():
            self.assertRaises(NoDay, shown_places, SIXTY_ONE, thing)
            self.assertRaises(NoDay, can_prove, SIXTY_ONE, (((0, 0, thing),), 0), 0)
        for place in odd_things() + [1, 2, 200, "0", (0,)]:
            self.assertRaises(NoNumber, can_prove, LOAF, (((1, 0, 0),), 0), place)
            self.assertRaises(NoNumber, can_prove, NOBODY, ((), 0), place)
        self.assertRaises(NoNumber, can_prove, NOBODY, ((), 0), 0)
        for place in (-1, 1, True, False):
            self.assertRaises(NoNumber, can_prove, LOAF, (((1, 0, 0),), 0), place)

    def test_no_bound_of_the_reader(self):
        day = (((0, 0, 3),), 0)
        self.assertIs(can_prove(SIXTY_ONE, day, 0), False)
        self.assertIs(can_prove(SIXTY_ONE, (((2, 3, 1),), 0), 0), False)
        self.assertEqual(shown_places(SIXTY_ONE, day), ())
        # Of the 64 steps the last four are none here, those with slip 3, answer 3.
        self.assertEqual(settled(SIXTY_ONE, ((3,), 0)), [])
        self.assertTrue(slow_is_forging(SIXTY_ONE, forging(SIXTY_ONE)))
        self.assertIs(is_forging(SIXTY_ONE, (day, day, 0)), False)
        self.assertIsNone(indiscreet(SIXTY_ONE))
        self.assertIs(is_indiscreet(SIXTY_ONE, (day, 0)), False)


class SettledTest(unittest.TestCase):
    def test_e10(self):
        self.assertEqual(settled(HUNG_UP, ((1, 0), 0)), [(0, 1), (1, 0)])

    def test_against_all_true_days(self):
        for office in NAMED[:5] + [LATE] + small_offices(80, 46):
            for many in range(4):
                true = slow_true_days(office, many)
                for the_board in all_boards(office, many):
                    self.assertEqual(settled(office, the_board), slow_settled(true, the_board))

    def test_no_true_day(self):
        self.assertEqual(settled(NEVER, ((0, 0), 0)), [])
        self.assertEqual(settled(HUNG_UP, ((1, 0), 1)), [])
        self.assertEqual(settled(NOBODY, ((), 0)), [])
        self.assertEqual(settled(LOAF, ((0,) * 200, 0)), [])
        self.assertEqual(settled(HUNG_UP, ((1,) * 200, 0)), [(place, 1) for place in range(200)])

    def test_board_of_a_late_mark(self):
        self.assertEqual(settled(LATE, ((0, 0, 0, 0), 0)), [(0, 0)])
        self.assertEqual(settled(LATE, ((0, 0, 0, 1), 0)), [(0, 1)])
        self.assertEqual(settled(LATE, ((0, 0, 0, 1, 0), 1)), [(0, 1), (4, 0)])
        self.assertEqual(settled(LATE, ((0, 0, 1, 1), 0)), [])

    def test_wrong(self):
        for thing in odd_things() + NO_BOARDS:
            self.assertRaises(NoBoard, settled, LOAF, thing)
            self.assertRaises(NoBoard, settled, SIXTY_ONE, [thing])
        for thing in odd_things():
            self.assertRaises(NoBoard, settled, LOAF, ((0, thing), 0))
            self.assertRaises(NoBoard, settled, LOAF, ((0,), thing))

    def test_new_lists(self):
        settled(HUNG_UP, ((1, 0), 0)).clear()
        self.assertEqual(settled(HUNG_UP, ((1, 0), 0)), [(0, 1), (1, 0)])


class IndiscreetTest(unittest.TestCase):
    def test_found_ones(self):
        both = {True: 0, False: 0}
        for office in NAMED + [LATE, deep_forks(3)] + small_offices(300, 47, 4):
            found = indiscreet(office)
            both[found is None] += 1
            self.assertEqual(indiscreet(office), found)
            if found is not None:
                day, place = found
                self.assertIs(is_indiscreet(office, found), True)
                marks, last = slow_board(day)
                self.assertIn((place, day[0][place][0]), settled(office, (tuple(marks), last)))
                if len(marks) < 4:
                    self.assertTrue(slow_is_indiscreet(office, found))
        self.assertTrue(min(both.values()) > 40)

    def test_none_exactly_where_no_board_settles(self):
        for office in NAMED[:5] + [LATE] + small_offices(250, 48, 3):
            settles = any(settled(office, the_board) for many in range(5 if office.sizes[2] == 2 else 7)
                          for the_board in all_boards(office, many))
            if settles:
                self.assertIsNotNone(indiscreet(office))
            elif indiscreet(office) is not None:
                self.assertGreater(len(indiscreet(office)[0][0]), 4)

    def test_own_words(self):
        self.assertIsNone(indiscreet(LOAF))
        self.assertIsNone(indiscreet(NOBODY))
        self.assertIsNone(indiscreet(NEVER))
        self.assertEqual(len(indiscreet(HUNG_UP)), 2)
        self.assertIs(is_indiscreet(HUNG_UP, ((((1, 0, 1), (0, 0, 0)), 0), 1)), True)
        self.assertIs(is_indiscreet(HUNG_UP, ((((1, 0, 1), (0, 0, 0)), 0), 2)), False)
        self.assertIs(is_indiscreet(HUNG_UP, ((((1, 0, 1), (0, 0, 0)), 0), True)), False)
        self.assertIs(is_indiscreet(HUNG_UP, ((((1, 0, 1), (0, 0, 0)), 1), 1)), False)
        self.assertIs(is_indiscreet(HUNG_UP, ((((1, 0, 0), (0, 0, 0)), 0), 1)), False)
        self.assertIs(is_indiscreet(LOAF, ((((1, 0, 0), (1, 1, 0)), 0), 0)), False)
        for place in (-1, 0, 1):
            self.assertIs(is_indiscreet(HUNG_UP, (((), 0), place)), False)
            self.assertIs(is_forging(LOAF, (((), 0), ((), 0), place)), False)

    def test_settled_by_what_comes_behind(self):
        # Only the mark of a later comer, or the last mark, tells the first slip.
        for far in range(8):
            goal = 2 * far + 3
            moves = [((0, 0, 0, 1), (1, 0, 0, 2))]
            for at in range(far):
                moves += [tuple((slip, 0, 0, 2 * at + 3) for slip in (0, 1)),
                          tuple((slip, 0, 0, 2 * at + 4) for slip in (0, 1))]
            moves += [((0, 0, 0, goal), (1, 0, 0, goal)), ((0, 0, 1, goal), (1, 0, 1, goal)), ()]
            office = Office((2, 1, 2), tuple(moves), ((),) * goal + ((0,),))
            day, place = indiscreet(office)
            self.assertEqual((len(day[0]), place), (far + 2, 0))
            self.assertTrue(slow_is_true(office, day))
            marks, last = slow_board(day)
            self.assertEqual(settled(office, (tuple(marks), last)), [(0, day[0][0][0])])
            # With the other mark both ways lead on, so there the first slip is free.
            moves[-3] = ((0, 0, 0, goal), (0, 0, 1, goal), (1, 0, 0, goal), (1, 0, 1, goal))
            moves[-2] = moves[-3]
            self.assertIsNone(indiscreet(Office((2, 1, 2), tuple(moves), ((),) * goal + ((0,),))))
        office = Office((2, 1, 2), (((0, 0, 0, 1), (1, 0, 0, 2)), (), ()), ((), (0, 1), (1,)))
        self.assertEqual(indiscreet(office), ((((0, 0, 0),), 0), 0))

    def test_many_sets_by_the_marks(self):
        # Half a million sets of standings are behind some marks.
        self.assertIsNone(indiscreet(deep_forks(18)))
        day = some_true(deep_forks(18), 30)
        self.assertIs(is_indiscreet(deep_forks(18), (day, 0)), False)

    def test_many_standings(self):
        rng = random.Random(49)
        for density in (0.05, 0.2, 1.2):
            office = random_office(rng, (2, 2, 2), 20, density)
            found = indiscreet(office)
            if found is not None:
                self.assertIs(is_indiscreet(office, found), True)

    def test_anything(self):
        right = indiscreet(HUNG_UP)
        for thing in odd_things():
            for office in (LOAF, NOBODY, HUNG_UP, SIXTY_ONE):
                self.assertIs(is_indiscreet(office, thing), False)
            self.assertIs(is_indiscreet(HUNG_UP, (thing, 0)), False)
            self.assertIs(is_indiscreet(HUNG_UP, (right[0], thing)), False)
        for office in [HUNG_UP, FORKED, LATE] + small_offices(40, 50):
            found = indiscreet(office)
            if found is not None:
                for thing in twisted(found):
                    self.assertIs(is_indiscreet(office, thing), slow_is_indiscreet(office, thing))
            for many in range(3):
                for day in all_days(office, many)[:8]:
                    for place in range(many):
                        self.assertIs(is_indiscreet(office, (day, place)), slow_is_indiscreet(office, (day, place)))


if __name__ == "__main__":
    unittest.main()
