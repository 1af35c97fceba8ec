"""18.1 and 18.2: shares of days, how many slips can be shown, and the cheapest lot that sees a day."""

import random
import unittest
from itertools import combinations

from falsedays.errors import NoDay, NoNumber, NoPrices, TooMany
from falsedays.keeping import unseen_days
from falsedays.offices import Office, is_true, true_days
from falsedays.proving import can_prove, shown_places
from falsedays.shares import cheapest_lot, least_proofs, most_proofs, shares
from falsedays.tales import seeing, unseen
from tests.helpers import (FORKED, HUNG_UP, JUST_2000, JUST_2001, LOAF, NEVER, NO_DAYS, NOBODY, SIXTY_ONE, all_days,
                           days_by_board, echo_office, odd_things, office_of_days, slow_tales, slow_true_days,
                           slow_unseen, small_offices, twisted, two_ends_office)

NAMED = [LOAF, HUNG_UP, FORKED, NEVER, NOBODY, echo_office(1), echo_office(2), two_ends_office(1)]
BOTH = (((1, 0, 0), (1, 0, 0)), 0)
# All 2048 days of five people with these sizes.
FIVE = all_days(HUNG_UP, 5)


def slow_proofs(true):
    """Of some true days, all of so many people, the number of places whose slip can be shown, with each day."""
    found = []
    for days in days_by_board(true).values():
        for day in days:
            shown = [place for place, step in enumerate(day[0]) if all(
                other[0][place][0] == step[0] for other in days if other[0][place][1] == step[1])]
            found.append((len(shown), day))
    return found


def slow_most(true):
    proofs = slow_proofs(true)
    if not proofs:
        return None
    most = max(number for number, _ in proofs)
    return most, min(day for number, day in proofs if number == most)


def slow_least(true):
    proofs = slow_proofs(true)
    return min(proofs) if proofs else None


def all_lots(many):
    return [lot for size in range(many + 1) for lot in combinations(range(many), size)]


def slow_cheapest(true, day, prices):
    """By all lots."""
    return min(((sum(prices[place] for place in lot), lot) for lot in all_lots(len(day[0]))
                if not slow_tales(true, day, lot)), default=None)


def people(office, most_days=1100):
    slips, answers, marks = office.sizes
    return [many for many in range(1, 7) if (slips * answers * marks) ** many * marks <= most_days]


class SharesTest(unittest.TestCase):
    def test_own_words(self):
        self.assertEqual(shares(LOAF, 1, 2), (16, 4, 2))
        self.assertEqual(shares(LOAF, 2, 2), (16, 4, 0))
        self.assertEqual(shares(LOAF, 2, 1), (4, 2, 0))
        self.assertEqual(shares(HUNG_UP, 1, 3), (128, 8, 0))
        self.assertEqual(shares(NEVER, 1, 6), (64, 0, 0))
        self.assertEqual(shares(NOBODY, 4, 6), (1, 0, 0))
        self.assertEqual(shares(Office((4, 3, 2), ((),), ((),)), 4, 6), (24 ** 6 * 2, 0, 0))

    def test_against_all_days(self):
        some = 0
        for office in NAMED + small_offices(40, 421):
            for many in people(office, 600):
                days, true = all_days(office, many), slow_true_days(office, many)
                for k in (1, 2, 3, 4):
                    left = [day for day in days if slow_unseen(true, day, k)]
                    self.assertEqual(shares(office, k, many), (len(days), len(true), len(left)))
                    some += len(left) > 0
                    if k > many:
                        self.assertEqual(left, [])
        self.assertGreater(some, 40)

    def test_like_unseen_days(self):
        for office in NAMED + small_offices(40, 422):
            for many in people(office, 300):
                for k in (1, 2, 3, 4):
                    days, true, left = shares(office, k, many)
                    found = unseen_days(office, k, many)
                    self.assertEqual(true + left, len(found))
                    self.assertEqual(left, sum(unseen(office, day, k) for day in all_days(office, many)))
                    self.assertEqual(true, sum(is_true(office, day) for day in found))
                    self.assertEqual(days, len(all_days(office, many)))

    def test_six_people(self):
        self.assertEqual(shares(LOAF, 4, 6), (4096, 64, len(unseen_days(LOAF, 4, 6)) - 64))
        self.assertEqual(shares(echo_office(1), 2, 6), (4096, 64, 0))

    def test_too_many(self):
        # Both the true ones and the unseen ones count, as for unseen_days.
        self.assertEqual(shares(office_of_days((2, 1, 2), FIVE[:1000]), 4, 5), (2048, 1000, 0))
        for bad, k, many in ((JUST_2000, 2, 6), (JUST_2001, 2, 6), (office_of_days((2, 1, 2), FIVE[:2001]), 4, 5)):
            self.assertRaises(TooMany, unseen_days, bad, k, many)
            with self.assertRaises(TooMany) as caught:
                shares(bad, k, many)
            self.assertEqual(caught.exception.most, 2000)
        days = [(((0, answer, 0),), 0) for answer in range(2001)]
        self.assertEqual(shares(office_of_days((1, 2001, 1), days[:2000]), 1, 1), (2001, 2000, 0))
        self.assertRaises(TooMany, shares, office_of_days((1, 2001, 1), days), 1, 1)

    def test_numbers(self):
        for thing in odd_things() + [0, 5, "1", (1,)]:
            self.assertRaises(NoNumber, shares, LOAF, thing, 2)
            self.assertRaises(NoNumber, shares, LOAF, thing, thing)
        for thing in odd_things() + [0, 7, "1", (1,)]:
            self.assertRaises(NoNumber, shares, LOAF, 1, thing)
            self.assertRaises(NoNumber, shares, JUST_2001, 2, thing)

    def test_no_bound_of_the_reader(self):
        self.assertEqual(shares(SIXTY_ONE, 1, 1)[:2], (256, 60))
        self.assertEqual(most_proofs(SIXTY_ONE, 0), (0, ((), 0)))
        self.assertEqual(most_proofs(SIXTY_ONE, 1), slow_most(slow_true_days(SIXTY_ONE, 1)))
        self.assertEqual(least_proofs(SIXTY_ONE, 1), slow_least(slow_true_days(SIXTY_ONE, 1)))
        self.assertEqual(cheapest_lot(SIXTY_ONE, (((3, 3, 3),), 0), (5,)), (5, (0,)))


class ProofsTest(unittest.TestCase):
    def test_own_words(self):
        self.assertEqual(most_proofs(LOAF, 1), (1, (((0, 1, 0),), 0)))
        self.assertEqual(least_proofs(LOAF, 1), (1, (((0, 1, 0),), 0)))
        # The second one who was given nothing may have come behind one who had the loaf, or not.
        self.assertEqual(most_proofs(LOAF, 2), (2, (((0, 1, 0), (1, 0, 0)), 0)))
        self.assertEqual(least_proofs(LOAF, 2), (1, (((0, 1, 0), (0, 1, 0)), 0)))
        self.assertEqual(most_proofs(HUNG_UP, 4), (4, (((0, 0, 0),) * 4, 0)))
        self.assertEqual(least_proofs(HUNG_UP, 4), (4, (((0, 0, 0),) * 4, 0)))

    def test_nobody_and_none(self):
        for office in NAMED + small_offices(40, 423):
            true = slow_true_days(office, 0)
            right = (0, true[0]) if true else None
            self.assertEqual(most_proofs(office, 0), right)
            self.assertEqual(least_proofs(office, 0), right)
        for many in range(7):
            self.assertIsNone(most_proofs(NEVER, many))
            self.assertIsNone(least_proofs(NEVER, many))
        self.assertIsNone(most_proofs(NOBODY, 1))
        self.assertEqual(least_proofs(NOBODY, 0), (0, ((), 0)))

    def test_against_all_days(self):
        numbers = {}
        for office in NAMED + small_offices(90, 424):
            for many in people(office):
                true = slow_true_days(office, many)
                most, least = most_proofs(office, many), least_proofs(office, many)
                self.assertEqual(most, slow_most(true))
                self.assertEqual(least, slow_least(true))
                if true:
                    numbers[least[0], most[0]] = numbers.get((least[0], most[0]), 0) + 1
        self.assertGreater(len(numbers), 8)
        self.assertGreater(sum(number for (least, most), number in numbers.items() if least < most), 40)

    def test_like_shown_places(self):
        for office in NAMED + small_offices(60, 425):
            for many in people(office, 300):
                shown = [(len(shown_places(office, day)), day) for day in true_days(office, many)]
                for function, pick in ((most_proofs, max), (least_proofs, min)):
                    told = function(office, many)
                    if not shown:
                        self.assertIsNone(told)
                    else:
                        number, day = told
                        self.assertEqual(number, pick(number for number, _ in shown))
                        self.assertEqual(day, min(day for other, day in shown if other == number))
                        self.assertEqual(number, sum(can_prove(office, day, place) for place in range(many)))

    def test_six_people(self):
        for office in (LOAF, echo_office(2), two_ends_office(4)):
            true = slow_true_days(office, 6)
            self.assertEqual(most_proofs(office, 6), slow_most(true))
            self.assertEqual(least_proofs(office, 6), slow_least(true))

    def test_too_many(self):
        office = office_of_days((2, 1, 2), FIVE[:2000])
        self.assertEqual(most_proofs(office, 5), slow_most(FIVE[:2000]))
        self.assertEqual(least_proofs(office, 5), slow_least(FIVE[:2000]))
        for many in (5, 6):
            office = Office((2, 2, 1), (tuple((slip, answer, 0, 0) for slip in (0, 1) for answer in (0, 1)),), ((0,),))
            self.assertEqual(most_proofs(office, 5), (0, (((0, 0, 0),) * 5, 0)))
        for function in (most_proofs, least_proofs):
            for office, many in ((office_of_days((2, 1, 2), FIVE[:2001]), 5), (office, 6)):
                with self.assertRaises(TooMany) as caught:
                    function(office, many)
                self.assertEqual(caught.exception.most, 2000)

    def test_numbers(self):
        for thing in odd_things() + [7, "1", (1,), 10 ** 9]:
            self.assertRaises(NoNumber, most_proofs, LOAF, thing)
            self.assertRaises(NoNumber, least_proofs, LOAF, thing)


class CheapestTest(unittest.TestCase):
    def test_own_words(self):
        self.assertEqual(cheapest_lot(LOAF, BOTH, (3, 4)), (7, (0, 1)))
        self.assertEqual(cheapest_lot(LOAF, (((1, 0, 0), (1, 0, 0), (1, 0, 0)), 0), (5, 4, 3)), (7, (1, 2)))
        self.assertEqual(cheapest_lot(LOAF, (((1, 0, 0), (0, 0, 0), (1, 0, 0)), 0), (5, 99, 3)), (8, (0, 2)))
        self.assertEqual(cheapest_lot(LOAF, (((1, 0, 0), (0, 0, 0), (1, 0, 0)), 0), (5, 8, 3)), (8, (0, 2)))
        self.assertEqual(cheapest_lot(LOAF, (((1, 0, 0), (0, 0, 0), (1, 0, 0)), 0), (5, 7, 3)), (7, (1,)))
        self.assertEqual(cheapest_lot(HUNG_UP, ((), 1), ()), (0, ()))
        self.assertEqual(cheapest_lot(HUNG_UP, (((0, 0, 0),), 1), (99,)), (0, ()))
        self.assertIsNone(cheapest_lot(LOAF, ((), 0), ()))
        self.assertIsNone(cheapest_lot(LOAF, (((1, 0, 0), (1, 1, 0)), 0), (0, 0)))

    def test_prices_of_0(self):
        # Places that cost nothing may make a lot a lesser one.
        day = (((1, 0, 0), (0, 0, 0), (1, 0, 0)), 0)
        self.assertEqual(cheapest_lot(LOAF, day, (0, 7, 9)), (7, (0, 1)))
        self.assertEqual(cheapest_lot(LOAF, day, (9, 7, 0)), (7, (1,)))
        self.assertEqual(cheapest_lot(LOAF, day, (0, 0, 0)), (0, (0, 1)))
        self.assertEqual(cheapest_lot(HUNG_UP, (((0, 0, 0), (0, 0, 0)), 1), (0, 0)), (0, ()))
        self.assertEqual(cheapest_lot(LOAF, BOTH, (99, 99)), (198, (0, 1)))

    def test_against_all_lots(self):
        rng = random.Random(426)
        kinds = {"none": 0, "one": 0, "more": 0}
        for office in NAMED + small_offices(50, 427):
            for many in [0] + people(office):
                days, true = all_days(office, many), slow_true_days(office, many)
                for day in rng.sample(days, min(len(days), 8)) + rng.sample(true, min(len(true), 1)):
                    prices = tuple(rng.choice([0, 0, 1, 2, 3, 50, 98, 99]) for _ in range(many))
                    right = slow_cheapest(true, day, prices)
                    self.assertEqual(cheapest_lot(office, day, prices), right)
                    self.assertEqual(right is None, day in true)
                    kinds["none" if right is None else "one" if len(right[1]) < 2 else "more"] += 1
        self.assertGreater(min(kinds.values()), 100)

    def test_like_seeing(self):
        rng = random.Random(428)
        for office in NAMED + small_offices(60, 429):
            for many in people(office, 300):
                day = rng.choice(all_days(office, many))
                prices = tuple(rng.randint(1, 99) for _ in range(many))
                lots = seeing(office, day)
                told = cheapest_lot(office, day, prices)
                if not lots:
                    self.assertIsNone(told)
                else:
                    # Where nothing is for nothing, the cheapest lot can spare no place.
                    self.assertEqual(told, min((sum(prices[place] for place in lot), lot) for lot in lots))
                    self.assertEqual(cheapest_lot(office, day, (1,) * many)[0], min(len(lot) for lot in lots))

    def test_eight_and_nine_people(self):
        row = ((1, 0, 0),) + ((0, 1, 0),) * 6 + ((1, 0, 0),)
        self.assertEqual(cheapest_lot(LOAF, (row, 0), (9, 0, 1, 0, 1, 0, 1, 8)), (17, (0, 1, 3, 5, 7)))
        self.assertIsNone(cheapest_lot(LOAF, (((0, 1, 0),) * 8, 0), (0,) * 8))
        for steps in (row + ((0, 1, 0),), ((0, 1, 0),) * 9, ((0, 0, 0),) * 9, ((0, 1, 0),) * 200):
            with self.assertRaises(TooMany) as caught:
                cheapest_lot(LOAF, (steps, 0), (1,) * len(steps))
            self.assertEqual(caught.exception.most, 8)
            self.assertRaises(NoPrices, cheapest_lot, LOAF, (steps, 0), (1,) * 8)
            self.assertRaises(NoPrices, cheapest_lot, LOAF, (steps, 0), (1,) * (len(steps) - 1) + (100,))

    def test_wrong(self):
        for thing in odd_things() + NO_DAYS:
            self.assertRaises(NoDay, cheapest_lot, LOAF, thing, (1, 1))
            self.assertRaises(NoDay, cheapest_lot, LOAF, thing, thing)
        for thing in odd_things() + [(), (1,), (1, 1, 1), [1, 1], (100, 1), (1, -1), (True, 1), (1, False), ("1", 1), 1,
                                     (1, (1,)), (1, 10 ** 39), {0: 1, 1: 1}, "11"]:
            self.assertRaises(NoPrices, cheapest_lot, LOAF, BOTH, thing)
            self.assertRaises(NoPrices, cheapest_lot, LOAF, (((1, 0, 0), (1, 1, 0)), 0), thing)
        for thing in odd_things():
            self.assertRaises(NoPrices, cheapest_lot, LOAF, BOTH, (1, thing))
            if thing != ():
                self.assertRaises(NoPrices, cheapest_lot, LOAF, ((), 0), thing)
        for thing in twisted((5, 0)):
            if isinstance(thing, tuple) and len(thing) == 2 and all(
                    type(part) is int and 0 <= part <= 99 for part in thing):
                self.assertEqual(cheapest_lot(LOAF, BOTH, thing), (sum(thing), (0, 1)))
            else:
                self.assertRaises(NoPrices, cheapest_lot, LOAF, BOTH, thing)


if __name__ == "__main__":
    unittest.main()
