"""9.1 and 9.2: chains of offices, and where two editions of a rule part."""

import random
import unittest

from falsedays.alone import is_learning, learning, left
from falsedays.chains import chained, same_days
from falsedays.claims import heights, least_lies
from falsedays.colours import coloured, good_colours
from falsedays.counting import day_at, day_number, many_days, many_with
from falsedays.errors import NotChained, OtherSizes, TooMany
from falsedays.facts import is_fact
from falsedays.keeping import is_sure, served, unseen_days
from falsedays.neighbours import crossing, enough, is_crossing, is_paper, is_round, least_k, paper, round_of
from falsedays.offices import Office, board, is_true, notes, some_true, true_days
from falsedays.proving import forging, indiscreet, is_forging, is_indiscreet, settled
from falsedays.readers import reader
from falsedays.tales import seeing, tale, unseen
from tests.helpers import (FORKED, HUNG_UP, LOAF, NEVER, NOBODY, SIXTY, SIXTY_ONE, echo_office, random_office,
                           slow_is_true, slow_true_days, small_offices, wide_office)

# What LOAF answers is hung up, by the marks 1 and 0.
TELLER = Office((2, 3, 2), (((0, 2, 1, 0), (1, 0, 0, 0)),), ((0, 1),))


def joint_day(day, other, sizes):
    """The day of a chain, if the one's answers are the other's slips."""
    steps = tuple((slip, answer * sizes[1] + further, mark * sizes[2] + further_mark)
                  for (slip, answer, mark), (_, further, further_mark) in zip(day[0], other[0]))
    return steps, day[1] * sizes[2] + other[1]


def slow_chain_days(one, other, many):
    """The true days of a chain, by the true days of both."""
    others = slow_true_days(other, many)
    return sorted({joint_day(day, further, other.sizes) for day in slow_true_days(one, many) for further in others
                   if [step[1] for step in day[0]] == [step[0] for step in further[0]]})


def slow_chained(one, other):
    """The parts of a chain by the words of 9.1."""
    pairs = [(0, 0)]
    rows = []
    for p, q in pairs:
        found = []
        for slip, a, m, goal in one.moves[p]:
            for c, b, n, further in other.moves[q]:
                if a == c:
                    found.append((slip, a * other.sizes[1] + b, m * other.sizes[2] + n, goal, further))
        for move in sorted(found):
            if move[3:] not in pairs:
                pairs.append(move[3:])
        rows.append(tuple(sorted(move[:3] + (pairs.index(move[3:]),) for move in found)))
    closings = tuple(tuple(sorted(m * other.sizes[2] + n for m in one.closings[p] for n in other.closings[q]))
                     for p, q in pairs)
    return (one.sizes[0], one.sizes[1] * other.sizes[1], one.sizes[2] * other.sizes[2]), tuple(rows), closings


def parts(office):
    return office.sizes, office.moves, office.closings


def some_pairs(seed, many, most_standings=3):
    rng = random.Random(seed)
    offices = small_offices(many, seed + 1, most_standings) + [LOAF, HUNG_UP, FORKED, TELLER]
    pairs = []
    while len(pairs) < many:
        one, other = rng.choice(offices), rng.choice(offices)
        if one.sizes[1] <= other.sizes[0]:
            pairs.append((one, other))
    return pairs


class ChainedTest(unittest.TestCase):
    def test_own_words(self):
        chain = chained(LOAF, TELLER)
        self.assertIsInstance(chain, Office)
        self.assertEqual(chain.sizes, (2, 6, 2))
        self.assertEqual(chain.moves, (((0, 3, 0, 0), (1, 2, 1, 1)), ((0, 3, 0, 1), (1, 3, 0, 1))))
        self.assertEqual(chain.closings, ((0, 1), (0, 1)))
        self.assertEqual(true_days(chain, 1), [(((0, 3, 0),), 0), (((0, 3, 0),), 1), (((1, 2, 1),), 0),
                                               (((1, 2, 1),), 1)])

    def test_numbers(self):
        # The second standing of the chain is met by the lesser step, though its standings are greater.
        one = Office((2, 1, 1), (((0, 0, 0, 2), (1, 0, 0, 1)), (), ()), ((), (0,), ()))
        other = Office((1, 1, 1), (((0, 0, 0, 0), (0, 0, 0, 1)), ()), ((0,), ()))
        chain = chained(one, other)
        self.assertEqual(chain.moves, (((0, 0, 0, 1), (0, 0, 0, 2), (1, 0, 0, 3), (1, 0, 0, 4)), (), (), (), ()))
        self.assertEqual(chain.closings, ((), (), (), (0,), ()))
        # Where the first office leads to two standings the lesser one comes ahead, whatever the other office does.
        one = Office((1, 1, 1), (((0, 0, 0, 1), (0, 0, 0, 2)), (), ()), ((), (0,), ()))
        self.assertEqual(chained(one, other).closings, ((), (0,), (), (), ()))
        # A goal that was met with a lesser step has the lesser number, and moves are ascending all the same.
        one = Office((1, 1, 2), (((0, 0, 0, 1), (0, 0, 1, 0)), ((0, 0, 0, 0), (0, 0, 0, 1))), ((0,), (1,)))
        self.assertEqual(chained(one, HUNG_UP).moves, (((0, 0, 0, 1), (0, 0, 2, 0)), ((0, 0, 0, 0), (0, 0, 0, 1))))

    def test_many_pairs(self):
        for one, other in some_pairs(100, 250, 4):
            self.assertEqual(parts(chained(one, other)), slow_chained(one, other))
            self.assertTrue(chained(one, other) == chained(one, other))

    def test_true_days(self):
        for one, other in some_pairs(102, 60):
            chain = chained(one, other)
            for many in range(3):
                right = slow_chain_days(one, other, many)
                if len(right) <= 2000:
                    self.assertEqual(true_days(chain, many), right)
                else:
                    self.assertRaises(TooMany, true_days, chain, many)

    def test_just_as_many_answers_as_slips_fewer_and_more(self):
        for answers in range(1, 5):
            for slips in range(1, 5):
                one = Office((1, answers, 1), (tuple((0, answer, 0, 0) for answer in range(answers)),), ((0,),))
                other = Office((slips, 1, 1), (tuple((slip, 0, 0, 0) for slip in range(slips)),), ((0,),))
                if answers > slips:
                    self.assertRaises(NotChained, chained, one, other)
                else:
                    self.assertEqual(chained(one, other).sizes, (1, answers, 1))
                    self.assertEqual(len(chained(one, other).moves[0]), answers)
        self.assertRaises(NotChained, chained, SIXTY_ONE, LOAF)

    def test_sizes_beyond_four(self):
        rng = random.Random(104)
        full = Office((4, 4, 4), (tuple((slip, answer, mark, 0) for slip in range(4) for answer in range(4)
                                        for mark in range(4)),), ((0, 1, 2, 3),))
        chain = chained(full, full)
        self.assertEqual(chain.sizes, (4, 16, 16))
        self.assertEqual(chain.closings, (tuple(range(16)),))
        self.assertEqual(len(chain.moves[0]), 4 * 16 * 16)
        self.assertEqual(many_days(chain, 1, 10 ** 30), 4 * 16 * 16 * 16)
        self.assertIs(is_true(chain, (((3, 15, 15),), 15)), True)
        self.assertIs(is_true(chain, (((3, 15, 16),), 15)), False)
        self.assertEqual(coloured(chain, (0,) * 16).sizes, (4, 16, 1))
        self.assertRaises(NotChained, chained, chain, full)
        one = random_office(rng, (2, 2, 2), 4, 0.6)
        other = random_office(rng, (2, 4, 2), 4, 0.6)
        last = random_office(rng, (4, 3, 2), 5, 0.4)
        chain = chained(one, chained(other, last))
        self.assertEqual(parts(chain), slow_chained(one, chained(other, last)))
        self.assertEqual(chain.sizes, (2, 24, 8))

    def test_more_than_20_standings(self):
        ring = Office((1, 1, 1), tuple(((0, 0, 0, (at + 1) % 19),) for at in range(19)), ((0,),) + ((),) * 18)
        other = Office((1, 1, 1), tuple(((0, 0, 0, (at + 1) % 20),) for at in range(20)), ((0,),) + ((),) * 19)
        chain = chained(ring, other)
        self.assertEqual(len(chain.moves), 380)
        self.assertIs(is_true(chain, (((0, 0, 0),) * 380, 0)), True)
        self.assertIs(is_true(chain, (((0, 0, 0),) * 379, 0)), False)
        self.assertIsNone(some_true(chain, 200))
        # Nothing is bounded but what goes by the reader.
        self.assertRaises(TooMany, reader, chain)
        self.assertIsNone(forging(chain))
        self.assertEqual(len(chained(chain, other).moves), 380)
        self.assertEqual(len(indiscreet(chain)[0][0]), 380)
        self.assertIs(is_indiscreet(chain, indiscreet(chain)), True)

    def test_no_bound_of_the_reader(self):
        self.assertEqual(parts(chained(SIXTY_ONE, SIXTY)), slow_chained(SIXTY_ONE, SIXTY))

    def test_a_chain_is_an_office_for_every_function(self):
        chain = chained(LOAF, chained(TELLER, Office((3, 3, 3), (((0, 0, 0, 0), (1, 1, 1, 0), (2, 2, 2, 1)),
                                                                 ((0, 2, 1, 0), (2, 1, 0, 1))), ((0, 2), (1,)))))
        self.assertEqual(chain.sizes, (2, 18, 6))
        day = some_true(chain, 3)
        self.assertTrue(slow_is_true(chain, day))
        self.assertEqual(tale(chain, day, (0, 1, 2)), day)
        self.assertIs(unseen(chain, day, 1), False)
        self.assertEqual(seeing(chain, day), [])
        self.assertIs(is_fact(chain, (((0,) * (2 * 18 * 6),), ())), True)
        self.assertEqual(chain, chain)
        for k in (1, 2):
            found = crossing(chain, k)
            self.assertTrue(found is None or is_crossing(chain, k, found))
            found = paper(chain, k)
            self.assertTrue(found is None or is_paper(chain, k, found))
        self.assertTrue(round_of(chain) is None or is_round(chain, round_of(chain)))
        self.assertTrue(learning(chain) is None or is_learning(chain, learning(chain)))
        self.assertTrue(forging(chain) is None or is_forging(chain, forging(chain)))
        self.assertTrue(indiscreet(chain) is None or is_indiscreet(chain, indiscreet(chain)))
        self.assertEqual(left(chain, board(chain, day), 1, notes(chain, day)[1]) > 0, True)
        self.assertIsInstance(settled(chain, board(chain, day)), list)
        self.assertEqual(least_lies(chain, board(chain, day), notes(chain, day)), (0, day))
        self.assertEqual(len(heights(chain, board(chain, day), notes(chain, day))), 4)
        self.assertEqual(day_at(chain, 3, day_number(chain, day)), day)
        self.assertGreater(many_with(chain, board(chain, day)), 0)
        self.assertIn(day, unseen_days(chain, 1, 3))
        self.assertEqual(good_colours(chain, 200), [colours for colours in good_colours(chain, 200)
                                                    if enough(coloured(chain, colours), 200)])

    def test_sure_chains(self):
        other = Office((3, 2, 1), (((0, 1, 0, 1), (1, 0, 0, 0), (2, 0, 0, 0)),
                                   ((0, 0, 0, 0), (1, 1, 0, 1), (2, 0, 0, 1))), ((0,), (0,)))
        chain = chained(LOAF, other)
        self.assertIs(is_sure(chain), True)
        self.assertEqual(served(chain, (1, 1, 0)), (((1, 1, 0), (1, 3, 0), (0, 3, 0)), 0))

    def test_the_fifth_fact(self):
        both = 0
        for one, other in some_pairs(106, 400):
            try:
                k, l, m = least_k(one), least_k(other), least_k(chained(one, other))
            except TooMany:
                continue
            if k is not None and l is not None:
                both += k + l > 2
                self.assertIsNotNone(m)
                self.assertLessEqual(m, max(k, l))
                self.assertIs(enough(chained(one, other), max(k, l)), True)
        self.assertGreater(both, 3)
        for far in (1, 2):
            for further in (1, 2, 3):
                chain = chained(echo_office(far), echo_office(further))
                self.assertLessEqual(least_k(chain), max(far, further) + 1)

    def test_offices_stay(self):
        one = Office(LOAF.sizes, LOAF.moves, LOAF.closings)
        other = Office(TELLER.sizes, TELLER.moves, TELLER.closings)
        chained(one, other)
        self.assertTrue(one == LOAF and other == TELLER)


def slow_same_days(one, other, most):
    """The least day of so many people at most that is a true day of just one of two offices."""
    for many in range(most + 1):
        found = set(slow_true_days(one, many)) ^ set(slow_true_days(other, many))
        if found:
            return min(found)
    return None


def doubled(office):
    """The same true days, with each standing there twice."""
    many = len(office.moves)
    rng = random.Random(many)
    moves = tuple(tuple(sorted({move[:3] + (move[3] + many * rng.randrange(2),) for move in row}))
                  for row in office.moves * 2)
    return Office(office.sizes, moves, office.closings * 2)


class SameDaysTest(unittest.TestCase):
    def test_own_words(self):
        self.assertIsNone(same_days(LOAF, LOAF))
        other = Office(LOAF.sizes, (LOAF.moves[0], ((0, 1, 0, 1), (1, 0, 0, 1))), LOAF.closings)
        self.assertEqual(same_days(LOAF, other), (((1, 0, 0), (1, 0, 0)), 0))
        self.assertEqual(same_days(other, LOAF), (((1, 0, 0), (1, 0, 0)), 0))
        self.assertEqual(same_days(LOAF, Office(LOAF.sizes, LOAF.moves, ((), (0,)))), ((), 0))
        self.assertEqual(same_days(NEVER, Office(NEVER.sizes, ((),), ((0,),))), ((), 0))
        self.assertIsNone(same_days(NEVER, Office(NEVER.sizes, ((),), ((),))))

    def test_against_all_true_days(self):
        rng = random.Random(110)
        shapes = [(2, 1, 1), (1, 2, 1), (1, 1, 2), (1, 2, 2)]
        found = {}
        for _ in range(250):
            sizes = rng.choice(shapes)
            one = random_office(rng, sizes, rng.randint(1, 3), rng.choice([0.8, 1.2]))
            other = one
            while rng.random() < 0.7:
                at, row = rng.randrange(len(one.moves)), list(other.moves[rng.randrange(len(one.moves))])
                other = Office(sizes, other.moves[:at] + (tuple(row),) + other.moves[at + 1:], other.closings)
            day = same_days(one, other)
            right = slow_same_days(one, other, 4)
            if right is None:
                self.assertTrue(day is None or len(day[0]) > 4)
            else:
                self.assertEqual(day, right)
            self.assertEqual(same_days(other, one), day)
            found[None if day is None else len(day[0])] = True
        self.assertTrue({None, 1, 2} <= set(found))

    def test_unlike_offices(self):
        rng = random.Random(111)
        for sizes in ((2, 1, 1), (1, 1, 2), (2, 2, 1)):
            offices = [random_office(rng, sizes, rng.randint(1, 4)) for _ in range(25)]
            for one in offices:
                for other in offices[:8]:
                    day = same_days(one, other)
                    self.assertEqual(day is None or len(day[0]) > 2, slow_same_days(one, other, 2) is None)
                    if day is not None:
                        self.assertIs(is_true(one, day) != is_true(other, day), True)
                        if len(day[0]) <= 2:
                            self.assertEqual(day, slow_same_days(one, other, 2))

    def test_never(self):
        for office in [LOAF, FORKED, NEVER, echo_office(2)] + small_offices(60, 112):
            self.assertIsNone(same_days(office, office))
            self.assertIsNone(same_days(office, doubled(office)))
            self.assertIsNone(same_days(doubled(office), office))

    def test_many_people(self):
        def ring(many, lasts=(0,)):
            moves = tuple(((0, 0, 0, (at + 1) % many), (1, 0, 0, (at + 1) % many)) for at in range(many))
            return wide_office((2, 1, 2), moves, (lasts,) + ((),) * (many - 1))

        for one, other, many in ((19, 20, 19), (20, 10, 10), (3, 7, 3), (60, 59, 59), (60, 20, 20)):
            self.assertEqual(same_days(ring(one), ring(other)), (((0, 0, 0),) * many, 0))
            self.assertEqual(same_days(ring(one, (0, 1)), ring(one, (0,))), ((), 1))
        self.assertEqual(same_days(ring(20), ring(20, (1,))), ((), 0))

        def late(many, last):
            moves = tuple(((0, 0, 0, at + 1), (1, 0, 0, at + 1)) for at in range(many)) + ((),)
            return wide_office((2, 1, 3), moves, ((),) * many + (last,))

        # The steps come ahead of the last mark.
        self.assertEqual(same_days(late(30, (0, 2)), late(30, (0, 1))), (((0, 0, 0),) * 30, 1))
        self.assertEqual(same_days(late(59, (2,)), late(59, ())), (((0, 0, 0),) * 59, 2))
        self.assertIsNone(same_days(late(59, (1, 2)), late(59, (1, 2))))
        self.assertIsNone(same_days(late(59, ()), late(19, ())))

    def test_less_steps_ahead_of_less_marks(self):
        one = Office((2, 1, 2), (((0, 0, 0, 1), (1, 0, 0, 2)), (), ()), ((), (0, 1), (0, 1)))
        other = Office((2, 1, 2), (((0, 0, 0, 1), (1, 0, 0, 2)), (), ()), ((), (0,), (1,)))
        self.assertEqual(same_days(one, other), (((0, 0, 0),), 1))
        other = Office((2, 1, 2), (((0, 0, 0, 1), (1, 0, 0, 2)), (), ()), ((), (0, 1), ()))
        self.assertEqual(same_days(one, other), (((1, 0, 0),), 0))

    def test_many_marks(self):
        lasts = [(), (1,), (8, 9), (1, 8), (0, 1, 8, 9, 15)]
        offices = [wide_office((1, 1, 16), ((),), (row,)) for row in lasts]
        for row, one in zip(lasts, offices):
            for further, other in zip(lasts, offices):
                found = set(row) ^ set(further)
                self.assertEqual(same_days(one, other), ((), min(found)) if found else None)
        for marks in ((8, 1), (9, 8, 15)):
            one = wide_office((1, 1, 16), (tuple((0, 0, mark, 0) for mark in sorted(marks)),), ((0,),))
            self.assertEqual(same_days(one, wide_office((1, 1, 16), ((),), ((0,),))), (((0, 0, min(marks)),), 0))

    def test_wrong(self):
        for other in (HUNG_UP, NOBODY, SIXTY_ONE, Office((1, 2, 2), ((),), ((),)), Office((2, 1, 2), ((),), ((),))):
            self.assertRaises(OtherSizes, same_days, LOAF, other)
            self.assertRaises(OtherSizes, same_days, other, LOAF)
        self.assertRaises(OtherSizes, same_days, chained(LOAF, TELLER), LOAF)
        self.assertIsNone(same_days(chained(LOAF, TELLER), chained(LOAF, TELLER)))

    def test_too_many(self):
        for one, other in ((SIXTY, SIXTY_ONE), (SIXTY_ONE, SIXTY), (SIXTY_ONE, SIXTY_ONE)):
            with self.assertRaises(TooMany) as caught:
                same_days(one, other)
            self.assertEqual(caught.exception.most, 60)
        self.assertEqual(same_days(SIXTY, Office((4, 4, 4), ((),), ((0,),))), (((0, 0, 0),), 0))
        # It is raised even where the empty day parts them.
        self.assertRaises(TooMany, same_days, SIXTY_ONE, Office((4, 4, 4), ((),), ((),)))


if __name__ == "__main__":
    unittest.main()
