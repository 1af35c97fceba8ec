"""4.1 to 4.3: what is enough, crossings, rounds and papers, and the facts between them."""

import random
import unittest

from falsedays.errors import NoNumber, TooMany
from falsedays.neighbours import crossing, enough, is_crossing, is_paper, is_round, least_k, paper, round_of
from falsedays.offices import Office
from falsedays.tales import unseen
from tests.helpers import (FORKED, HUNG_UP, LOAF, NEVER, NOBODY, SIXTY, SIXTY_ONE, all_days, clock_office,
                           days_by_board, echo_office, odd_things, slow_is_crossing, slow_is_paper, slow_is_round,
                           slow_is_true, slow_true_days, slow_unseen, small_offices, twisted, two_ends_office)

NAMED = [LOAF, HUNG_UP, NOBODY, NEVER, FORKED, SIXTY, echo_office(1), echo_office(2), two_ends_office(0),
         two_ends_office(1)]
NO_KS = odd_things() + [0, 201, "1", (1,), [1]]
CROSSING = ((((1, 0, 0), (1, 1, 0)), 0), (((0, 1, 0), (1, 0, 0)), 0), 1)


def crossed_day(thing):
    one, other, place = thing
    return one[0][:place] + other[0][place:], other[1]


class EnoughTest(unittest.TestCase):
    def test_e06(self):
        self.assertIsNone(least_k(LOAF))
        self.assertEqual(least_k(HUNG_UP), 1)

    def test_named(self):
        for office in (NOBODY, NEVER, SIXTY, HUNG_UP):
            self.assertEqual(least_k(office), 1)
            for k in (1, 2, 20, 200):
                self.assertIs(enough(office, k), True)
        for k in (1, 2, 20, 200):
            self.assertIs(enough(LOAF, k), False)

    def test_above_one(self):
        for far in range(1, 5):
            self.assertEqual(least_k(echo_office(far)), far + 1)
        for far in range(9):
            office = two_ends_office(far)
            self.assertEqual(least_k(office), far + 2)
            self.assertIs(enough(office, far + 1), False)
            self.assertIs(enough(office, far + 2), True)
            self.assertIs(enough(office, 200), True)

    def test_above_200(self):
        office = clock_office(15, 14)
        self.assertEqual(least_k(office), 211)
        self.assertIs(enough(office, 200), False)
        self.assertTrue(slow_is_crossing(office, 200, crossing(office, 200)))
        self.assertIsNone(paper(office, 200))
        self.assertIsNone(round_of(office))
        office = clock_office(10, 9)
        self.assertEqual([k for k in range(1, 201) if enough(office, k)][:1], [91])
        self.assertEqual(least_k(office), 91)

    def test_flags(self):
        for office in small_offices(20, 17):
            for k in (1, 3):
                self.assertIn(enough(office, k), (True, False))
                self.assertIsInstance(enough(office, k), bool)

    def test_like_the_least(self):
        for office in NAMED + small_offices(100, 18, 4):
            least = least_k(office)
            for k in (1, 2, 3, 4, 5, 20, 200):
                self.assertIs(enough(office, k), least is not None and k >= least)

    def test_false_days_by_their_definition(self):
        for office in NAMED[:5] + NAMED[6:8] + small_offices(60, 19):
            ks = [k for k in (1, 2, 3) if enough(office, k)]
            for many in range(1, 4):
                true = slow_true_days(office, many)
                for day in all_days(office, many)[::3]:
                    for k in ks[:1]:
                        self.assertFalse(slow_unseen(true, day, k))

    def test_least_by_their_definition(self):
        # Where days of four people suffice to see that a number is not enough.
        for office, least in ((echo_office(1), 2), (echo_office(2), 3), (two_ends_office(1), 3),
                              (two_ends_office(0), 2)):
            true = {many: slow_true_days(office, many) for many in range(1, 5)}
            for k in (1, 2, 3):
                found = [day for many in range(1, 5) for day in all_days(office, many)
                         if slow_unseen(true[many], day, k)]
                self.assertEqual(found == [], k >= least)

    def test_the_middle(self):
        for office in NAMED[:5] + small_offices(50, 20):
            for k in (1, 2, 3):
                crossed = True
                for many in range(4):
                    for days in days_by_board(slow_true_days(office, many)).values():
                        for one in days[:9]:
                            for other in days[-9:]:
                                for place in range(k - 1, many + 1):
                                    if slow_is_crossing(office, k, (one, other, place)):
                                        crossed = False
                if enough(office, k):
                    self.assertTrue(crossed)
                elif not crossed:
                    self.assertIsNotNone(crossing(office, k))

    def test_no_number(self):
        for call in (enough, crossing, paper, lambda office, k: is_crossing(office, k, CROSSING),
                     lambda office, k: is_paper(office, k, None)):
            for k in NO_KS:
                self.assertRaises(NoNumber, call, LOAF, k)
                self.assertRaises(NoNumber, call, SIXTY_ONE, k)

    def test_too_many(self):
        calls = [enough, crossing, paper, lambda office, k: is_paper(office, k, None),
                 lambda office, k: least_k(office), lambda office, k: round_of(office),
                 lambda office, k: is_round(office, None)]
        for call in calls:
            for k in (1, 200):
                with self.assertRaises(TooMany) as caught:
                    call(SIXTY_ONE, k)
                self.assertEqual(caught.exception.most, 60)
            call(SIXTY, 1)
        self.assertIs(is_crossing(SIXTY_ONE, 1, CROSSING), False)


class CrossingTest(unittest.TestCase):
    def test_e07(self):
        self.assertIs(is_crossing(LOAF, 1, CROSSING), True)
        self.assertIs(is_crossing(LOAF, 2, CROSSING), False)

    def test_edges_of_the_place(self):
        # Three comers who did not want it stand between.
        one = (((1, 0, 0),) + ((0, 1, 0),) * 3 + ((1, 1, 0),), 0)
        other = (((0, 1, 0),) + ((0, 1, 0),) * 3 + ((1, 0, 0),), 0)
        for k in range(1, 7):
            for place in range(-1, 7):
                right = slow_is_crossing(LOAF, k, (one, other, place))
                self.assertIs(is_crossing(LOAF, k, (one, other, place)), right)
                self.assertEqual(right, k <= place <= 4)
        self.assertIs(is_crossing(LOAF, 1, (one, other, True)), False)
        self.assertIs(is_crossing(LOAF, 1, (one, other, 5)), False)

    def test_other_boards_and_false_days(self):
        office = Office((2, 1, 2), (((0, 0, 0, 1), (1, 0, 1, 2)), ((0, 0, 0, 3),), ((1, 0, 0, 3),), ()),
                        ((), (), (), (0,)))
        one, other = (((0, 0, 0), (0, 0, 0)), 0), (((1, 0, 1), (1, 0, 0)), 0)
        self.assertTrue(slow_is_true(office, one) and slow_is_true(office, other))
        self.assertIs(is_crossing(office, 1, (one, other, 1)), False)
        self.assertIs(is_crossing(LOAF, 1, (CROSSING[0], (((1, 0, 0), (1, 0, 0)), 0), 1)), False)
        self.assertIs(is_crossing(LOAF, 1, ((((1, 0, 0), (1, 0, 0)), 0), CROSSING[1], 1)), False)
        self.assertIs(is_crossing(LOAF, 1, (CROSSING[0], CROSSING[0], 1)), False)

    def test_other_last_marks(self):
        office = Office((1, 2, 2), (((0, 0, 0, 1), (0, 1, 0, 2)), (), ()), ((), (0,), (1,)))
        one, other = (((0, 0, 0),), 0), (((0, 1, 0),), 1)
        self.assertIs(is_crossing(office, 1, (one, other, 1)), False)
        self.assertIs(is_crossing(office, 1, (one, other, 0)), False)

    def test_found_ones(self):
        for office in NAMED + small_offices(150, 21, 4):
            for k in (1, 2, 3, 4, 20):
                found = crossing(office, k)
                self.assertEqual(found is None, enough(office, k))
                if found is not None:
                    self.assertTrue(slow_is_crossing(office, k, found))
                    self.assertIs(is_crossing(office, k, found), True)
                    self.assertIs(unseen(office, crossed_day(found), k), True)
                    self.assertEqual(crossing(office, k), found)

    def test_200(self):
        found = crossing(LOAF, 200)
        self.assertTrue(slow_is_crossing(LOAF, 200, found))
        self.assertIs(is_crossing(LOAF, 200, found), True)
        self.assertIs(is_crossing(LOAF, 20, found), True)

    def test_anything(self):
        for thing in odd_things():
            for office in (LOAF, SIXTY_ONE):
                self.assertIs(is_crossing(office, 1, thing), False)
                self.assertIs(is_crossing(office, 1, (thing, CROSSING[1], 1)), False)
                self.assertIs(is_crossing(office, 1, (CROSSING[0], thing, 1)), False)
                self.assertIs(is_crossing(office, 1, CROSSING[:2] + (thing,)), False)
                self.assertIs(is_crossing(office, 1, (thing, thing, thing)), False)

    def test_twisted(self):
        for office in [LOAF, FORKED, echo_office(1)] + small_offices(20, 22):
            for k in (1, 2):
                found = crossing(office, k)
                if found is not None:
                    for thing in twisted(found):
                        self.assertIs(is_crossing(office, k, thing), slow_is_crossing(office, k, thing))


class RoundTest(unittest.TestCase):
    def test_found_ones(self):
        many = 0
        for office in NAMED + small_offices(250, 23, 4):
            found = round_of(office)
            self.assertEqual(found is None, least_k(office) is not None)
            if found is not None:
                many += 1
                self.assertTrue(slow_is_round(office, found))
                self.assertIs(is_round(office, found), True)
                self.assertEqual(round_of(office), found)
        self.assertGreater(many, 30)

    def test_any_number_of_times(self):
        for office in [LOAF] + [office for office in small_offices(60, 24, 4) if least_k(office) is None]:
            one, other, turn, lead, rest, other_rest, last = round_of(office)
            for times in (0, 1, 2, 7):
                between = turn * times + lead
                crossed = ((one + between + rest, last), (other + between + other_rest, last), len(one) + len(between))
                self.assertTrue(slow_is_crossing(office, len(between) + 1, crossed))

    def test_own_words(self):
        right = (((1, 0, 0),), ((0, 1, 0),), ((0, 1, 0),), (), ((1, 1, 0),), ((1, 0, 0),), 0)
        self.assertIs(is_round(LOAF, right), True)
        self.assertIs(is_round(LOAF, right[:2] + ((),) + right[3:]), False)
        # Behind a turn the reader of the other one stands elsewhere.
        self.assertIs(is_round(LOAF, right[:2] + (((1, 0, 0),),) + right[3:]), False)
        self.assertIs(is_round(LOAF, right[:2] + (((1, 1, 0),),) + right[3:]), False)
        self.assertIs(is_round(LOAF, right[:3] + (((0, 1, 0),) * 3,) + right[4:]), True)
        self.assertIs(is_round(LOAF, right[:4] + (((0, 1, 0),),) + right[5:]), True)
        self.assertIs(is_round(LOAF, right[:5] + (((0, 1, 0),),) + right[6:]), False)
        self.assertIs(is_round(LOAF, right[:4] + (((0, 1, 0), (0, 1, 0)),) + right[5:]), False)
        self.assertIs(is_round(LOAF, (((1, 0, 0), (0, 1, 0)),) + right[1:]), False)
        # From both numbers that follows which follows from one of them.
        self.assertIs(is_round(LOAF, (right[1], right[1]) + right[2:4] + (right[5], right[5], 0)), False)

    def test_dead_numbers(self):
        # From a dead number the reader comes to the dead number again, but that is no round.
        right = (((0, 0, 0),), ((0, 0, 0),), ((0, 0, 0),), (), ((1, 1, 0),), ((1, 0, 0),), 0)
        self.assertIs(is_round(LOAF, right), False)

    def test_like_marks(self):
        # One branch by mark 0, the other one by mark 1: no two days of one board.
        office = Office((2, 1, 2), (((0, 0, 0, 1), (1, 0, 1, 2)), ((0, 0, 0, 1), (0, 0, 1, 3)),
                                    ((0, 0, 0, 2), (1, 0, 1, 3)), ()), ((), (), (), (0,)))
        thing = (((0, 0, 0),), ((1, 0, 1),), ((0, 0, 0),), (), ((0, 0, 1),), ((1, 0, 1),), 0)
        self.assertIs(is_round(office, thing), False)
        self.assertIsNone(round_of(office))
        # Rests of unlike marks.
        office = Office((2, 1, 2), (((0, 0, 0, 1), (1, 0, 0, 2)), ((0, 0, 0, 1), (0, 0, 1, 3)),
                                    ((0, 0, 0, 2), (1, 0, 0, 3)), ()), ((), (), (), (0,)))
        thing = (((0, 0, 0),), ((1, 0, 0),), ((0, 0, 0),), (), ((0, 0, 1),), ((1, 0, 0),), 0)
        self.assertIs(is_round(office, thing), False)

    def test_anything(self):
        right = round_of(LOAF)
        for thing in odd_things():
            self.assertIs(is_round(LOAF, thing), False)
            self.assertIs(is_round(NOBODY, thing), False)
            for at in range(7):
                self.assertIs(is_round(LOAF, right[:at] + (thing,) + right[at + 1:]), False)

    def test_twisted(self):
        for office in [LOAF] + [office for office in small_offices(60, 25, 4) if least_k(office) is None]:
            for thing in twisted(round_of(office)):
                self.assertIs(is_round(office, thing), slow_is_round(office, thing))


class PaperTest(unittest.TestCase):
    def test_smallest(self):
        self.assertIs(is_paper(HUNG_UP, 1, ((((0, 0),),), ((0, 0, 0),))), True)
        self.assertIs(is_paper(HUNG_UP, 1, (((),), ())), False)
        self.assertIs(is_paper(HUNG_UP, 1, ((((0, 0),),), ())), False)
        self.assertIs(is_paper(HUNG_UP, 2, ((((0, 0),),), ((0, 0, 0),))), False)
        self.assertIs(is_paper(HUNG_UP, 2, ((((0, 0),), ((0, 0),)), ((0, 0, 0),))), True)
        self.assertIs(is_paper(HUNG_UP, 2, ((((0, 0),), ()), ())), False)
        self.assertIs(is_paper(NOBODY, 2, ((((0, 0),), ()), ())), True)
        self.assertIs(is_paper(NOBODY, 1, ((((0, 0),),), ((0, 0, -1), (0, 0, 0)))), False)
        self.assertIs(is_paper(NEVER, 1, ((((0, 0),),), ((0, 0, -1), (0, 0, 0)))), True)

    def test_found_ones(self):
        for office in NAMED + small_offices(120, 26, 4):
            for k in (1, 2, 3, 20):
                found = paper(office, k)
                self.assertEqual(found is not None, enough(office, k))
                if found is not None:
                    self.assertTrue(slow_is_paper(office, k, found))
                    self.assertIs(is_paper(office, k, found), True)
                    self.assertEqual(paper(office, k), found)

    def test_more_than_needed(self):
        for office in [NOBODY, NEVER, HUNG_UP, echo_office(1), echo_office(2)] + small_offices(60, 27):
            least = least_k(office)
            if least is not None:
                levels, triples = paper(office, least)
                # A level may have what the one ahead of it has, if nothing follows that tells.
                self.assertIs(is_paper(office, least + 1, (levels + levels[-1:], triples)),
                              slow_is_paper(office, least + 1, (levels + levels[-1:], triples)))
                self.assertIs(is_paper(office, least, paper(office, least + 1)), False)

    def test_200(self):
        for office in (HUNG_UP, NOBODY, echo_office(2), two_ends_office(8)):
            found = paper(office, 200)
            self.assertEqual(len(found[0]), 200)
            self.assertTrue(slow_is_paper(office, 200, found))
            self.assertIs(is_paper(office, 200, found), True)
        self.assertIsNone(paper(LOAF, 200))

    def test_60(self):
        found = paper(SIXTY, 1)
        self.assertTrue(slow_is_paper(SIXTY, 1, found))
        self.assertIs(is_paper(SIXTY, 1, found), True)

    def test_no_paper_where_not_enough(self):
        # All pairs and all triples hold together, but some tell.
        pairs = tuple((one, other) for one in (0, 1) for other in (0, 1))
        triples = tuple(pair + (crossed,) for pair in pairs for crossed in (-1, 0, 1))
        self.assertIs(is_paper(LOAF, 1, ((pairs,), triples)), False)
        silent = Office(LOAF.sizes, LOAF.moves, ((), (0,)))
        self.assertIs(is_paper(silent, 1, ((pairs,), triples)), slow_is_paper(silent, 1, ((pairs,), triples)))

    def test_anything(self):
        levels, triples = paper(echo_office(1), 2)
        office = echo_office(1)
        for thing in odd_things():
            self.assertIs(is_paper(office, 2, thing), False)
            self.assertIs(is_paper(office, 2, (thing, triples)), False)
            self.assertIs(is_paper(office, 2, (levels, thing)), False)
            self.assertIs(is_paper(office, 2, ((thing, levels[1]), triples)), False)
            self.assertIs(is_paper(office, 2, ((levels[0], thing), triples)), False)
            self.assertIs(is_paper(office, 2, (((thing,) + levels[0][1:], levels[1]), triples)), False)
            self.assertIs(is_paper(office, 2, (levels, (thing,) + triples[1:])), False)
            self.assertIs(is_paper(office, 2, (levels, triples[:-1] + (triples[-1][:2] + (thing,),))), False)

    def test_twisted(self):
        offices = [NOBODY, NEVER, HUNG_UP, echo_office(1), echo_office(2), two_ends_office(0)]
        for office in offices + small_offices(25, 28):
            for k in (1, 2, 3):
                found = paper(office, k)
                if found is not None and len(found[1]) < 50:
                    for thing in twisted(found):
                        self.assertIs(is_paper(office, k, thing), slow_is_paper(office, k, thing))

    def test_whole_parts_left_out(self):
        rng = random.Random(29)
        for office in [echo_office(1), echo_office(2), two_ends_office(1)] + small_offices(25, 30):
            for k in (1, 2, 3):
                found = paper(office, k)
                if found is not None:
                    levels, triples = found
                    for _ in range(5):
                        fewer = tuple(triple for triple in triples if rng.random() < 0.9)
                        less = tuple(tuple(pair for pair in level if rng.random() < 0.9) for level in levels)
                        for thing in ((levels, fewer), (less, triples), (less, fewer)):
                            self.assertIs(is_paper(office, k, thing), slow_is_paper(office, k, thing))


if __name__ == "__main__":
    unittest.main()
