"""8.1 and 8.2: claims, how many of them must be lies, and whose."""

import random
import unittest
from itertools import combinations, product

from falsedays.claims import convicting, heights, is_heights, least_lies, surely_lying
from falsedays.errors import NoBoard, NoClaims, NoNumber, TooMany
from falsedays.offices import Office, board, is_true, notes, some_true
from falsedays.readers import reader, stand
from tests.helpers import (FORKED, HUNG_UP, LOAF, NEVER, NO_BOARDS, NOBODY, SIXTY, SIXTY_ONE, all_boards, echo_office,
                           is_whole, odd_things, slow_behind, slow_is_true, slow_on_board, slow_true_days,
                           small_offices, twisted)

CALLS = [least_lies, heights, surely_lying, convicting,
         lambda office, the_board, claims: is_heights(office, the_board, claims, 0, None)]
TWO = ((0, 0), 0)


def all_notes(office):
    return list(product(range(office.sizes[0]), range(office.sizes[1])))


def unlike(day, claims):
    return sum(step[:2] != claim for step, claim in zip(day[0], claims))


def slow_heights(office, the_board, claims):
    """By all rows of steps with the board's marks."""
    marks, _ = the_board
    numbers = len(reader(office)[0])
    rows = []
    for many in range(len(marks) + 1):
        row = [None] * numbers
        for found in product(all_notes(office), repeat=many):
            steps = tuple(note + (mark,) for note, mark in zip(found, marks))
            number = stand(office, steps)
            if number != -1:
                height = unlike((steps, 0), claims)
                row[number] = height if row[number] is None else min(row[number], height)
        rows.append(tuple(row))
    return tuple(rows)


def slow_is_heights(office, the_board, claims, bound, thing):
    marks, last = the_board
    moves, closings = reader(office)
    if not isinstance(thing, tuple) or len(thing) != len(marks) + 1:
        return False
    for row in thing:
        if not isinstance(row, tuple) or len(row) != len(moves):
            return False
        if not all(height is None or is_whole(height) for height in row):
            return False
    if thing[0][0] is None or thing[0][0] > 0:
        return False
    for place, mark in enumerate(marks):
        for number, row in enumerate(moves):
            for slip, answer, move_mark, goal in row:
                if move_mark == mark and thing[place][number] is not None:
                    most = thing[place][number] + ((slip, answer) != claims[place])
                    if thing[place + 1][goal] is None or thing[place + 1][goal] > most:
                        return False
    return all(height >= bound for number, height in enumerate(thing[-1])
               if height is not None and last in closings[number])


def some_claims(rng, office, true, many):
    """Claims by chance, and the notes of true days, perhaps with one spot changed."""
    rows = [tuple(rng.choice(all_notes(office)) for _ in range(many)) for _ in range(2)]
    for day in rng.sample(true, min(2, len(true))):
        rows.append(notes(office, day))
        if many:
            at = rng.randrange(many)
            rows.append(rows[-1][:at] + (rng.choice(all_notes(office)),) + rows[-1][at + 1:])
    return rows


def cases(seed, offices, people):
    """Offices with some of their boards and claims, and the true days of so many people."""
    rng = random.Random(seed)
    for office in offices:
        for many in people:
            true = slow_true_days(office, many)
            boards = all_boards(office, many)
            for the_board in rng.sample(boards, min(4, len(boards))):
                for claims in some_claims(rng, office, true, many):
                    yield office, the_board, claims, slow_on_board(true, the_board)


class LeastLiesTest(unittest.TestCase):
    def test_e12(self):
        self.assertEqual(least_lies(LOAF, TWO, ((1, 0), (1, 0))), (1, (((0, 1, 0), (1, 0, 0)), 0)))

    def test_own_words(self):
        self.assertEqual(least_lies(LOAF, TWO, ((1, 0), (1, 1))), (0, (((1, 0, 0), (1, 1, 0)), 0)))
        self.assertEqual(least_lies(LOAF, TWO, ((0, 0), (0, 0))), (2, (((0, 1, 0), (0, 1, 0)), 0)))
        self.assertEqual(least_lies(LOAF, ((), 0), ()), (0, ((), 0)))
        self.assertIsNone(least_lies(NEVER, ((), 0), ()))
        self.assertIsNone(least_lies(NEVER, ((0,), 0), ((0, 0),)))
        self.assertIsNone(least_lies(NOBODY, ((0,), 0), ((0, 0),)))
        self.assertIsNone(least_lies(HUNG_UP, ((1,), 1), ((1, 0),)))

    def test_against_all_true_days(self):
        offices = [LOAF, HUNG_UP, FORKED, NEVER, NOBODY] + small_offices(80, 81)
        for office, the_board, claims, true in cases(82, offices, range(4)):
            right = min(((unlike(day, claims), day) for day in true), default=None)
            self.assertEqual(least_lies(office, the_board, claims), right)

    def test_long_boards(self):
        for many in (30, 200):
            the_board = ((0,) * many, 0)
            number, day = least_lies(LOAF, the_board, ((1, 0),) * many)
            self.assertEqual(number, many - 1)
            self.assertEqual(day, (((0, 1, 0),) * (many - 1) + ((1, 0, 0),), 0))
            office = echo_office(3)
            claims = tuple((at % 2, at % 3 % 2) for at in range(many))
            number, day = least_lies(office, the_board, claims)
            self.assertTrue(slow_is_true(office, day))
            self.assertEqual(unlike(day, claims), number)
            self.assertEqual(board(office, day), the_board)
            other = some_true(office, many)
            self.assertEqual(least_lies(office, the_board, notes(office, other)), (0, other))
            self.assertIs(is_heights(office, the_board, claims, number, heights(office, the_board, claims)), True)
            self.assertIs(is_heights(office, the_board, claims, number + 1, heights(office, the_board, claims)), False)

    def test_wrong(self):
        no_claims = [((1, 0),), ((1, 0),) * 3, (), [(1, 0), (1, 0)], ((1, 0), [1, 0]), ((1, 0), (2, 0)),
                     ((1, 0), (0, 2)), ((1, 0), (-1, 0)), ((1, 0), (1, False)), ((True, 0), (1, 0)), ((1, 0), (1,)),
                     ((1, 0), (1, 0, 0)), ((1, 0), None), (1, 0), "", ((1, 0), "10"), ((1, 0), (0, "0"))]
        for call in CALLS:
            for thing in odd_things() + NO_BOARDS:
                self.assertRaises(NoBoard, call, LOAF, thing, ())
                self.assertRaises(NoBoard, call, LOAF, thing, thing)
            for thing in odd_things():
                self.assertRaises(NoBoard, call, LOAF, ((thing,), 0), ((0, 0),))
                self.assertRaises(NoBoard, call, SIXTY_ONE, ((0,), thing), thing)
            for thing in odd_things() + no_claims:
                self.assertRaises(NoClaims, call, LOAF, TWO, thing)
            for thing in odd_things():
                self.assertRaises(NoClaims, call, LOAF, TWO, ((1, 0), thing))
                self.assertRaises(NoClaims, call, LOAF, TWO, ((1, 0), (thing, 0)))
                self.assertRaises(NoClaims, call, SIXTY_ONE, TWO, thing)
            self.assertRaises(NoClaims, call, LOAF, ((0,) * 9, 0), ((0, 0),) * 8)

    def test_too_many(self):
        for call in CALLS:
            for claims in ((), ((0, 0),), ((0, 0),) * 9):
                with self.assertRaises(TooMany) as caught:
                    call(SIXTY_ONE, ((0,) * len(claims), 0), claims)
                self.assertEqual(caught.exception.most, 60)
            call(SIXTY, ((0,), 0), ((0, 0),))
        self.assertEqual(least_lies(SIXTY, ((2,), 0), ((3, 3),)), (1, (((0, 0, 2),), 0)))


class HeightsTest(unittest.TestCase):
    def test_own_words(self):
        self.assertEqual(heights(LOAF, TWO, ((1, 0), (1, 0))), ((0, None), (1, 0), (2, 1)))
        self.assertEqual(heights(LOAF, ((), 0), ()), ((0, None),))
        self.assertEqual(heights(NOBODY, ((0, 0), 0), ((0, 0), (0, 0))), ((0,), (None,), (None,)))

    def test_against_all_rows(self):
        offices = [LOAF, HUNG_UP, FORKED, NEVER, NOBODY] + small_offices(50, 83)
        for office, the_board, claims, _ in cases(84, offices, range(4)):
            found = heights(office, the_board, claims)
            self.assertEqual(found, slow_heights(office, the_board, claims))
            self.assertIsInstance(found, tuple)
            self.assertTrue(all(isinstance(row, tuple) for row in found))

    def test_the_fourth_fact(self):
        offices = [LOAF, HUNG_UP, FORKED, NEVER, NOBODY] + small_offices(80, 85)
        for office, the_board, claims, true in cases(86, offices, range(4)):
            right = heights(office, the_board, claims)
            for bound in (-10 ** 39, -1, 0, 1, 2, 3, 4, 10 ** 39):
                # If any heights show it, these do, since they are as great as may be.
                shown = all(unlike(day, claims) >= bound for day in true)
                self.assertIs(is_heights(office, the_board, claims, bound, right), shown)
                found = least_lies(office, the_board, claims)
                self.assertIs(shown, found is None or found[0] >= bound)

    def test_other_heights(self):
        rng = random.Random(87)
        offices = [LOAF, HUNG_UP, FORKED, NEVER, NOBODY, echo_office(1)] + small_offices(25, 88)
        judged = {True: 0, False: 0}
        for office, the_board, claims, true in cases(89, offices, range(3)):
            right = heights(office, the_board, claims)
            for bound in (0, 1, 2):
                for thing in twisted(right)[:60]:
                    self.assertIs(is_heights(office, the_board, claims, bound, thing),
                                  slow_is_heights(office, the_board, claims, bound, thing))
                for _ in range(8):
                    thing = tuple(tuple(rng.choice([None, height, height, 0 if height is None else height - 1,
                                                    rng.randrange(-2, 3)]) for height in row) for row in right)
                    judge = slow_is_heights(office, the_board, claims, bound, thing)
                    self.assertIs(is_heights(office, the_board, claims, bound, thing), judge)
                    judged[judge] += 1
                    if judge:
                        self.assertTrue(all(unlike(day, claims) >= bound for day in true))
        self.assertGreater(min(judged.values()), 100)

    def test_is_heights_by_its_words(self):
        claims = ((1, 0), (1, 0))
        right = ((0, None), (1, 0), (2, 1))
        self.assertIs(is_heights(LOAF, TWO, claims, 1, right), True)
        self.assertIs(is_heights(LOAF, TWO, claims, 2, right), False)
        self.assertIs(is_heights(LOAF, TWO, claims, -10 ** 39, right), True)
        # Lower ones hold as well, as far as the bound lets them.
        self.assertIs(is_heights(LOAF, TWO, claims, 1, ((0, None), (1, 0), (1, 1))), True)
        self.assertIs(is_heights(LOAF, TWO, claims, 1, ((0, None), (1, 0), (0, 1))), False)
        self.assertIs(is_heights(LOAF, TWO, claims, 0, ((-1, None), (0, -1), (0, 0))), True)
        self.assertIs(is_heights(LOAF, TWO, claims, 0, ((-1, None), (0, -1), (0, 1))), False)
        self.assertIs(is_heights(LOAF, TWO, claims, 1, ((1, None), (1, 0), (2, 1))), False)
        self.assertIs(is_heights(LOAF, TWO, claims, 1, ((None, None), (1, 0), (2, 1))), False)
        self.assertIs(is_heights(LOAF, TWO, claims, 1, ((0, 5), (1, 0), (2, 1))), True)
        self.assertIs(is_heights(LOAF, TWO, claims, 1, ((0, -2), (1, 0), (2, 1))), False)
        self.assertIs(is_heights(LOAF, TWO, claims, 1, ((0, None), (1, None), (2, 1))), False)
        self.assertIs(is_heights(LOAF, TWO, claims, 1, ((0, None), (1, 0), (2, None))), False)
        self.assertIs(is_heights(LOAF, TWO, claims, 1, ((0, None), (1, 1), (2, 1))), False)
        self.assertIs(is_heights(LOAF, TWO, claims, 1, ((0, None), (1, 0))), False)
        self.assertIs(is_heights(LOAF, TWO, claims, 1, right + right[-1:]), False)
        self.assertIs(is_heights(LOAF, TWO, claims, 1, ((0, None), (1, 0), (2, 1, 1))), False)
        self.assertIs(is_heights(LOAF, TWO, claims, 1, ((False, None), (1, 0), (2, 1))), False)
        self.assertIs(is_heights(LOAF, TWO, claims, 1, ((0, None), (True, 0), (2, 1))), False)
        self.assertIs(is_heights(LOAF, TWO, claims, 1, [(0, None), (1, 0), (2, 1)]), False)
        self.assertIs(is_heights(LOAF, TWO, claims, 1, ((0, None), [1, 0], (2, 1))), False)

    def test_numbers_that_do_not_close(self):
        office = Office((2, 1, 1), (((0, 0, 0, 1), (1, 0, 0, 2)), (), ()), ((), (), (0,)))
        the_board, claims = ((0,), 0), ((0, 0),)
        self.assertEqual(heights(office, the_board, claims), ((0, None, None), (None, 0, 1)))
        self.assertIs(is_heights(office, the_board, claims, 1, ((0, None, None), (None, 0, 1))), True)
        self.assertIs(is_heights(office, the_board, claims, 1, ((0, None, None), (-9, -9, 1))), True)
        self.assertIs(is_heights(office, the_board, claims, 1, ((0, None, None), (-9, -9, 0))), False)
        self.assertIs(is_heights(office, the_board, claims, 1, ((0, None, None), (None, -9, 1))), True)
        self.assertIs(is_heights(office, the_board, claims, 2, ((0, None, None), (None, 0, 1))), False)

    def test_anything(self):
        claims = ((1, 0), (1, 0))
        right = heights(LOAF, TWO, claims)
        for thing in odd_things():
            self.assertIs(is_heights(LOAF, TWO, claims, 0, thing), False)
            self.assertIs(is_heights(NOBODY, ((), 0), (), 0, thing), False)
            for at in range(3):
                rows = right[:at] + (thing,) + right[at + 1:]
                self.assertIs(is_heights(LOAF, TWO, claims, 0, rows), slow_is_heights(LOAF, TWO, claims, 0, rows))
                for number in range(2):
                    row = right[at][:number] + (thing,) + right[at][number + 1:]
                    rows = right[:at] + (row,) + right[at + 1:]
                    self.assertIs(is_heights(LOAF, TWO, claims, 0, rows), slow_is_heights(LOAF, TWO, claims, 0, rows))

    def test_wrong_bounds(self):
        for bound in odd_things() + ["1", (1,)]:
            if not is_whole(bound):
                self.assertRaises(NoNumber, is_heights, LOAF, TWO, ((1, 0), (1, 0)), bound, bound)
                self.assertRaises(NoNumber, is_heights, SIXTY_ONE, TWO, ((1, 0), (1, 0)), bound, bound)
                self.assertRaises(NoClaims, is_heights, SIXTY_ONE, TWO, bound, bound, bound)
                self.assertRaises(NoBoard, is_heights, SIXTY_ONE, bound, bound, bound, bound)
        self.assertRaises(TooMany, is_heights, SIXTY_ONE, TWO, ((1, 0), (1, 0)), -7, None)


class LyingTest(unittest.TestCase):
    def test_own_words(self):
        self.assertEqual(surely_lying(LOAF, TWO, ((1, 0), (1, 0))), ())
        self.assertEqual(surely_lying(LOAF, TWO, ((0, 0), (1, 0))), (0,))
        self.assertEqual(surely_lying(LOAF, TWO, ((1, 1), (0, 0))), (0, 1))
        self.assertEqual(surely_lying(NEVER, ((0, 0), 0), ((0, 0), (0, 0))), (0, 1))
        self.assertEqual(surely_lying(LOAF, ((), 0), ()), ())
        self.assertEqual(surely_lying(NEVER, ((), 0), ()), ())

    def test_against_all_true_days(self):
        offices = [LOAF, HUNG_UP, FORKED, NEVER, NOBODY] + small_offices(80, 90)
        for office, the_board, claims, true in cases(91, offices, range(4)):
            right = tuple(place for place, claim in enumerate(claims)
                          if not any(day[0][place][:2] == claim for day in true))
            self.assertEqual(surely_lying(office, the_board, claims), right)
            if any(notes(office, day) == claims for day in true):
                self.assertEqual(right, ())

    def test_long_boards(self):
        for many in (30, 200):
            claims = ((1, 0),) * (many - 1) + ((0, 0),)
            self.assertEqual(surely_lying(LOAF, ((0,) * many, 0), claims), (many - 1,))
            self.assertEqual(surely_lying(LOAF, ((0,) * many, 0), ((1, 1),) * many), (0,))


class ConvictingTest(unittest.TestCase):
    def test_own_words(self):
        self.assertEqual(convicting(LOAF, TWO, ((1, 0), (1, 0))), [(0, 1)])
        self.assertEqual(convicting(LOAF, TWO, ((1, 0), (1, 1))), [])
        self.assertEqual(convicting(LOAF, TWO, ((0, 0), (1, 0))), [(0,)])
        self.assertEqual(convicting(NEVER, TWO, ((0, 0), (0, 0))), [()])
        self.assertEqual(convicting(LOAF, ((), 0), ()), [])
        self.assertEqual(convicting(NEVER, ((), 0), ()), [()])
        # Ascending as tuples, not by their sizes.
        self.assertEqual(convicting(LOAF, ((0,) * 4, 0), ((1, 0), (1, 0), (1, 0), (0, 0))),
                         [(0, 1), (0, 2), (1, 2), (3,)])

    def test_against_all_true_days(self):
        offices = [LOAF, HUNG_UP, FORKED, NEVER, NOBODY] + small_offices(60, 92)
        for office, the_board, claims, true in cases(93, offices, range(4)):
            lots = [lot for size in range(len(claims) + 1) for lot in combinations(range(len(claims)), size)]
            convict = [lot for lot in lots
                       if not any(all(day[0][at][:2] == claims[at] for at in lot) for day in true)]
            least = sorted(lot for lot in convict if not any(set(other) < set(lot) for other in convict))
            found = convicting(office, the_board, claims)
            self.assertIsInstance(found, list)
            self.assertEqual(found, least)
            lying = surely_lying(office, the_board, claims)
            if found == [()]:
                self.assertEqual(lying, tuple(range(len(claims))))
            else:
                self.assertEqual(lying, tuple(lot[0] for lot in found if len(lot) == 1))

    def test_eight_and_nine(self):
        self.assertEqual(convicting(LOAF, ((0,) * 8, 0), ((1, 0),) * 8), list(combinations(range(8), 2)))
        for many in (9, 30, 200):
            for office in (LOAF, NEVER):
                claims = ((1, 0),) * many
                with self.assertRaises(TooMany) as caught:
                    convicting(LOAF, ((0,) * many, 0), claims)
                self.assertEqual(caught.exception.most, 8)
        with self.assertRaises(TooMany) as caught:
            convicting(SIXTY_ONE, ((0,) * 9, 0), ((0, 0),) * 9)
        self.assertEqual(caught.exception.most, 60)

    def test_claims_that_are_true(self):
        for office in [LOAF, HUNG_UP, FORKED, echo_office(2)] + small_offices(40, 94):
            for many in (0, 1, 5, 8):
                day = some_true(office, many)
                if day is not None:
                    arguments = (office, board(office, day), notes(office, day))
                    self.assertEqual(convicting(*arguments), [])
                    self.assertEqual(surely_lying(*arguments), ())
                    self.assertEqual(least_lies(*arguments), (0, day))
                    self.assertTrue(is_true(office, least_lies(*arguments)[1]))
                    self.assertTrue(slow_behind(office, day[0]))

    def test_new_lists(self):
        convicting(LOAF, TWO, ((1, 0), (1, 0))).clear()
        self.assertEqual(convicting(LOAF, TWO, ((1, 0), (1, 0))), [(0, 1)])


if __name__ == "__main__":
    unittest.main()
