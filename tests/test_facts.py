"""3.3: facts, whether they hold, and who knows them."""

import random
import unittest
from itertools import combinations

from falsedays.errors import NoDay, NoFact, NoLot
from falsedays.facts import holds, is_fact, known
from falsedays.offices import Office
from tests.helpers import (FORKED, HUNG_UP, LOAF, NEVER, NOBODY, SIXTY_ONE, all_days, all_steps, echo_office,
                           is_ascending_of, is_whole, odd_things, slow_is_true, slow_tales, slow_true_days,
                           small_offices, twisted)

# The steps of LOAF are (0, 0, 0), (0, 1, 0), (1, 0, 0), (1, 1, 0): somebody took a loaf.
TAKEN = (((0, 0, 1, 0), (1, 1, 1, 1)), (1,))
# An odd number of comers wanted it.
ODD = (((0, 0, 1, 1), (1, 1, 0, 0)), (1,))
BOTH = (((1, 0, 0), (1, 0, 0)), 0)


def slow_is_fact(office, thing):
    if not isinstance(thing, tuple) or len(thing) != 2 or not isinstance(thing[0], tuple):
        return False
    many = len(thing[0])

    def is_state(part):
        return is_whole(part) and 0 <= part < many

    return (1 <= many <= 10 and is_ascending_of(thing[1], is_state)
            and all(isinstance(row, tuple) and len(row) == len(all_steps(office))
                    and all(is_state(part) for part in row) for row in thing[0]))


def slow_holds(office, fact, day):
    state = 0
    for step in day[0]:
        state = fact[0][state][all_steps(office).index(step)]
    return state in fact[1]


def random_fact(rng, office, states):
    moves = tuple(tuple(rng.randrange(states) for _ in all_steps(office)) for _ in range(states))
    return moves, tuple(state for state in range(states) if rng.random() < 0.5)


class FactTest(unittest.TestCase):
    def test_right_facts(self):
        for fact in [TAKEN, ODD, (((0,) * 4,), ()), (((0,) * 4,), (0,)), (((9,) * 4,) * 10, tuple(range(10)))]:
            self.assertIs(is_fact(LOAF, fact), True)
        self.assertIs(is_fact(NOBODY, (((0,),), (0,))), True)
        self.assertIs(is_fact(SIXTY_ONE, (((0,) * 64,), (0,))), True)

    def test_wrong_facts(self):
        for fact in [((), ()), (((10,) * 4,) * 11, ()), (((0,) * 4,) * 11, ()), (((0,) * 3,), ()), (((0,) * 5,), ()),
                     (((1,) * 4,), ()), (((-1,) + (0,) * 3,), ()), (((0,) * 4,), (1,)), (((0,) * 4,), (0, 0)),
                     (((0,) * 4,) * 2, (1, 0)), (((0,) * 4,), (False,)), (((0, 0, 0, False),), ()),
                     (((0,) * 4,), [0]), ([(0,) * 4], ()), (([0] * 4,), ()), [((0,) * 4,), ()], (((0,) * 4,),),
                     (((0,) * 4,), (), ()), (((0,) * 4,), 0), ((0,) * 4, ()), (((0,) * 4,), (-1,))]:
            self.assertIs(is_fact(LOAF, fact), False, fact)

    def test_anything(self):
        for thing in odd_things():
            self.assertIs(is_fact(LOAF, thing), False)
            self.assertIs(is_fact(LOAF, (thing, ())), False)
            self.assertIs(is_fact(LOAF, ((thing,), ())), False)
            self.assertIs(is_fact(LOAF, (((0, 0, 0, thing),), ())), False)
            self.assertIs(is_fact(LOAF, (((0,) * 4,), thing)), False)
            self.assertIs(is_fact(LOAF, (((0,) * 4,), (thing,))), False)
            self.assertIs(is_fact(LOAF, (((0,) * 4,), (0, thing))), False)

    def test_twisted(self):
        for fact in (TAKEN, (((0, 1, 2, 0), (1, 1, 1, 1), (0, 0, 0, 0)), (0, 2))):
            for thing in twisted(fact):
                self.assertIs(is_fact(LOAF, thing), slow_is_fact(LOAF, thing), thing)


class HoldsTest(unittest.TestCase):
    def test_holds(self):
        self.assertIs(holds(LOAF, TAKEN, BOTH), True)
        self.assertIs(holds(LOAF, TAKEN, (((0, 1, 0), (1, 1, 0)), 0)), False)
        self.assertIs(holds(LOAF, ODD, (((1, 1, 0),) * 199, 0)), True)
        self.assertIs(holds(LOAF, ODD, (((1, 1, 0),) * 200, 0)), False)
        self.assertIs(holds(LOAF, TAKEN, ((), 0)), False)
        self.assertIs(holds(LOAF, (((0,) * 4,), (0,)), ((), 0)), True)

    def test_order_of_steps(self):
        rng = random.Random(13)
        for office in [FORKED, HUNG_UP, Office((3, 2, 4), ((),), ((),)), SIXTY_ONE] + small_offices(20, 14):
            for states in (1, 2, 10):
                fact = random_fact(rng, office, states)
                self.assertIs(is_fact(office, fact), True)
                for _ in range(20):
                    steps = tuple(rng.choice(all_steps(office)) for _ in range(rng.randrange(6)))
                    self.assertIs(holds(office, fact, (steps, 0)), slow_holds(office, fact, (steps, 0)))

    def test_wrong(self):
        for thing in odd_things() + [((), ()), (((0,) * 4,), [0])]:
            self.assertRaises(NoFact, holds, LOAF, thing, BOTH)
            self.assertRaises(NoFact, holds, LOAF, thing, thing)
        for thing in odd_things() + [((), 1), ([], 0), (((0, 0, 1),), 0)]:
            self.assertRaises(NoDay, holds, LOAF, TAKEN, thing)


class KnownTest(unittest.TestCase):
    def judge(self, office, fact, day, lot, true):
        """What is known, judged by all true days of so many people."""
        told = known(office, fact, day, lot)
        tales = slow_tales(true, day, lot)
        yes = [other for other in tales if slow_holds(office, fact, other)]
        no = [other for other in tales if other not in yes]
        self.assertIsInstance(told, tuple)
        if yes and no:
            self.assertEqual((told[0], len(told)), ("open", 3))
            self.assertIn(told[1], yes)
            self.assertIn(told[2], no)
        elif yes or no:
            self.assertEqual((told[0], len(told)), ("yes" if yes else "no", 2))
            self.assertIn(told[1], tales)
        else:
            self.assertEqual(told, ("none",))

    def test_own_words(self):
        self.assertEqual(known(LOAF, TAKEN, BOTH, (0,))[0], "yes")
        self.assertIn(known(LOAF, TAKEN, BOTH, (0,))[1],
                      [(((1, 0, 0), (0, 1, 0)), 0), (((1, 0, 0), (1, 1, 0)), 0)])
        self.assertEqual(known(LOAF, TAKEN, BOTH, (0, 1)), ("none",))
        self.assertEqual(known(LOAF, TAKEN, BOTH, ())[0], "open")
        self.assertEqual(known(LOAF, TAKEN, (((0, 1, 0), (0, 1, 0)), 0), (0, 1)), ("no", (((0, 1, 0), (0, 1, 0)), 0)))
        self.assertEqual(known(LOAF, TAKEN, ((), 0), ()), ("no", ((), 0)))
        self.assertEqual(known(NEVER, (((0, 0),), (0,)), ((), 0), ()), ("none",))

    def test_against_all_true_days(self):
        rng = random.Random(15)
        for office in [LOAF, HUNG_UP, FORKED, NEVER, NOBODY] + small_offices(60, 16):
            for many in range(4):
                true = slow_true_days(office, many)
                days = all_days(office, many)
                for day in rng.sample(days, min(8, len(days))):
                    fact = random_fact(rng, office, rng.choice([1, 2, 3, 10]))
                    for size in range(many + 1):
                        for lot in combinations(range(many), size):
                            self.judge(office, fact, day, lot, true)

    def test_long_days(self):
        office = echo_office(2)
        odd = (((0, 0, 1, 1), (1, 1, 0, 0)), (1,))
        day = (((1, 0, 0),) * 200, 0)
        told = known(office, odd, day, (0, 1))
        self.assertEqual(told[0], "open")
        for other, odd_one in zip(told[1:], (True, False)):
            self.assertTrue(slow_is_true(office, other))
            self.assertEqual((len(other[0]), other[0][:2]), (200, day[0][:2]))
            self.assertIs(slow_holds(office, odd, other), odd_one)
        self.assertEqual(known(office, odd, day, (0, 2)), ("none",))

    def test_no_bound_of_the_reader(self):
        fact = (((0,) * 64,), (0,))
        self.assertEqual(known(SIXTY_ONE, fact, (((3, 3, 3),), 0), (0,)), ("none",))
        self.assertEqual(known(SIXTY_ONE, fact, (((3, 3, 3),), 0), ())[0], "yes")

    def test_wrong(self):
        for thing in odd_things() + [((), ())]:
            self.assertRaises(NoFact, known, LOAF, thing, BOTH, ())
            self.assertRaises(NoFact, known, LOAF, thing, thing, thing)
        for thing in odd_things() + [((), 1), ([], 0)]:
            self.assertRaises(NoDay, known, LOAF, TAKEN, thing, ())
            self.assertRaises(NoDay, known, LOAF, TAKEN, thing, [0])
        for thing in odd_things() + [(2,), (0, 0), (1, 0), [0], (True,)]:
            self.assertRaises(NoLot, known, LOAF, TAKEN, BOTH, thing)


if __name__ == "__main__":
    unittest.main()
