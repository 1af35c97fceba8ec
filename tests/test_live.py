"""12.1: a live day, and how what was done to it is put back."""

import random
import unittest
from itertools import combinations, product

from falsedays.desk import Desk
from falsedays.errors import FalseError, NoLot, NoMark, NoStep, NothingDone
from falsedays.live import Live
from falsedays.offices import Office, is_true
from tests.helpers import (FORKED, HUNG_UP, LOAF, NEVER, NOBODY, SIXTY_ONE, all_days, all_steps, echo_office,
                           odd_things, slow_behind, slow_is_true, small_offices, two_ends_office, wide_office)

# Slip 1 leads to where no way closes.
TRAP = Office((2, 1, 1), (((0, 0, 0, 0), (1, 0, 0, 1)), ((0, 0, 0, 1), (1, 0, 0, 1))), ((0,), ()))
METHODS = ["step", "so_far", "wrong", "sees_now", "ways_on", "closed", "back", "depth", "copy", "trying"]


def slow_live_standings(office):
    """The standings from which some way leads to a closing."""
    live = {at for at, lasts in enumerate(office.closings) if lasts}
    for _ in office.moves:
        live |= {at for at, row in enumerate(office.moves) if any(move[3] in live for move in row)}
    return live


def slow_is_begin(office, steps):
    return bool(slow_behind(office, steps) & slow_live_standings(office))


def slow_wrong(office, steps):
    for place in range(len(steps)):
        if not slow_is_begin(office, steps[:place + 1]):
            return place
    return None


def slow_sees_now(office, steps, lot):
    """By all rows of steps with these marks."""
    choices = [[step] if place in lot else [other for other in all_steps(office) if other[2] == step[2]]
               for place, step in enumerate(steps)]
    return not any(slow_is_begin(office, others) for others in product(*choices))


def live_of(office, steps):
    live = Live(office)
    for step in steps:
        live.step(*step)
    return live


def state_of(live):
    return live.so_far(), live.depth(), live.wrong(), live.ways_on()


def all_lots(many):
    return [lot for size in range(many + 1) for lot in combinations(range(many), size)]


class LiveTest(unittest.TestCase):
    def test_own_words(self):
        live = Live(LOAF)
        self.assertIsNone(live.step(1, 0, 0))
        self.assertEqual(live.so_far(), ((1, 0, 0),))
        self.assertEqual(live.ways_on(), [(0, 1, 0), (1, 1, 0)])
        live.step(1, 0, 0)
        self.assertEqual(live.wrong(), 1)
        self.assertEqual(live.ways_on(), [])
        self.assertIs(live.sees_now((0,)), False)
        self.assertIs(live.sees_now((1,)), False)
        self.assertIs(live.sees_now((0, 1)), True)
        self.assertEqual(live.closed(0), (((1, 0, 0), (1, 0, 0)), 0))
        self.assertEqual(live.depth(), 2)
        self.assertIsNone(live.back())
        self.assertIsNone(live.wrong())
        self.assertEqual(live.so_far(), ((1, 0, 0),))

    def test_nobody(self):
        for office in (LOAF, HUNG_UP, FORKED, NOBODY, NEVER, TRAP, SIXTY_ONE):
            live = Live(office)
            self.assertEqual(live.so_far(), ())
            self.assertIsNone(live.wrong())
            self.assertEqual(live.depth(), 0)
            self.assertIs(live.sees_now(()), not slow_is_begin(office, ()))
            self.assertEqual(live.closed(0), ((), 0))
            self.assertEqual(live.ways_on(), [step for step in all_steps(office) if slow_is_begin(office, (step,))])
            self.assertRaises(NoLot, live.sees_now, (0,))
            self.assertRaises(NothingDone, live.back)

    def test_no_end(self):
        live = live_of(NEVER, [(0, 0, 0), (1, 0, 0)])
        self.assertEqual((live.wrong(), live.ways_on(), live.sees_now(())), (0, [], True))
        self.assertEqual((Live(NEVER).wrong(), Live(NEVER).ways_on(), Live(NEVER).sees_now(())), (None, [], True))
        # The office closes, but with nobody behind, so no step may come next.
        live = Live(NOBODY)
        self.assertEqual((live.wrong(), live.ways_on(), live.sees_now(())), (None, [], False))
        live.step(0, 0, 0)
        self.assertEqual((live.wrong(), live.ways_on(), live.sees_now(())), (0, [], True))
        live = live_of(TRAP, [(0, 0, 0)])
        self.assertEqual((live.wrong(), live.ways_on()), (None, [(0, 0, 0)]))
        live.step(1, 0, 0)
        live.step(0, 0, 0)
        self.assertEqual((live.wrong(), live.ways_on(), live.sees_now((0, 2)), live.sees_now((1,))),
                         (1, [], False, True))

    def test_small_offices(self):
        rng = random.Random(201)
        wrongs = {}
        for office in [LOAF, HUNG_UP, FORKED, NEVER, NOBODY, TRAP, echo_office(2)] + small_offices(120, 202):
            steps = all_steps(office)
            for many in range(5):
                for _ in range(4):
                    row = tuple(rng.choice(steps) for _ in range(many))
                    live = live_of(office, row)
                    wrong = slow_wrong(office, row)
                    wrongs[wrong] = wrongs.get(wrong, 0) + 1
                    self.assertEqual(live.so_far(), row)
                    self.assertEqual(live.wrong(), wrong)
                    self.assertEqual(live.ways_on(), [step for step in steps if slow_is_begin(office, row + (step,))])
                    for lot in rng.sample(all_lots(many), min(4, 2 ** many)) + [(), tuple(range(many))]:
                        self.assertIs(live.sees_now(lot), slow_sees_now(office, row, lot))
                    self.assertEqual([live.closed(last) for last in range(office.sizes[2])],
                                     [(row, last) for last in range(office.sizes[2])])
        self.assertGreater(min(wrongs[at] for at in (None, 0, 1, 2)), 40)

    def test_by_all_true_days(self):
        # With three standings a begin of a true day is one of a true day with at most two more people.
        for office in small_offices(25, 203) + [LOAF, TRAP, NOBODY]:
            if len(all_steps(office)) < 5:
                begins = {day[0][:many] for many in range(5) for day in all_days(office, many)
                          if slow_is_true(office, day)}
                begins = {steps[:many] for steps in begins for many in range(len(steps) + 1)}
                for many in range(3):
                    for row in product(all_steps(office), repeat=many):
                        live = live_of(office, row)
                        self.assertEqual(live.wrong() is None, row in begins or many == 0)
                        self.assertEqual(live.ways_on(), [step for step in all_steps(office)
                                                          if row + (step,) in begins])

    def test_facts(self):
        # What may come next is what leaves nothing wrong, and all together see what is wrong.
        rng = random.Random(204)
        for office in small_offices(150, 205):
            live = Live(office)
            for many in range(6):
                ways = live.ways_on()
                self.assertEqual(ways, sorted(set(ways)))
                if live.wrong() is not None:
                    self.assertEqual(ways, [])
                for step in all_steps(office):
                    live.step(*step)
                    self.assertEqual(live.wrong() is None, step in ways)
                    live.back()
                some = slow_is_begin(office, ())
                self.assertIs(live.sees_now(tuple(range(many))), live.wrong() is not None or not some)
                step = rng.choice(ways) if ways and rng.random() < 0.8 else rng.choice(all_steps(office))
                live.step(*step)
            if live.wrong() is not None:
                place = live.wrong()
                for _ in range(6 - place):
                    self.assertEqual(live.wrong(), place)
                    live.back()
                self.assertIsNone(live.wrong())

    def test_lots_that_see_more(self):
        # A lot sees at least what a part of it sees; and a day that is true is seen by none.
        for office in small_offices(60, 206):
            rng = random.Random(206)
            row = tuple(rng.choice(all_steps(office)) for _ in range(3))
            live = live_of(office, row)
            seen = {lot: live.sees_now(lot) for lot in all_lots(3)}
            for lot, other in product(seen, repeat=2):
                if set(lot) <= set(other) and seen[lot]:
                    self.assertTrue(seen[other])
            if any(is_true(office, live.closed(last)) for last in range(office.sizes[2])):
                self.assertFalse(any(seen.values()))

    def test_days_of_200_and_more(self):
        for many in (200, 230):
            row = ((1, 0, 0),) + ((0, 1, 0),) * (many - 2) + ((1, 0, 0),)
            live = live_of(LOAF, row)
            self.assertEqual(live.so_far(), row)
            self.assertEqual((live.depth(), live.wrong(), live.ways_on()), (many, many - 1, []))
            self.assertIs(live.sees_now((0, many - 1)), True)
            self.assertIs(live.sees_now(tuple(range(many))), True)
            self.assertIs(live.sees_now(tuple(range(1, many))), False)
            self.assertIs(live.sees_now(()), False)
            self.assertEqual(live.closed(0), (row, 0))
            for left in reversed(range(many)):
                live.back()
                self.assertEqual(live.depth(), left)
            self.assertRaises(NothingDone, live.back)
        office = two_ends_office(6)
        live = live_of(office, [(0, 0, 0)] * 7 + [(0, 1, 0)])
        self.assertEqual((live.wrong(), live.sees_now((7,)), live.sees_now((0, 7))), (7, False, True))

    def test_offices_beyond_the_bounds(self):
        self.assertEqual(len(Live(SIXTY_ONE).ways_on()), 60)
        rows = tuple(((at % 6, 6, 4, at + 1),) for at in range(24)) + ((),)
        live = Live(wide_office((6, 7, 5), rows, ((),) * 24 + ((4,),)))
        for at in range(24):
            self.assertEqual(live.ways_on(), [(at % 6, 6, 4)])
            live.step(at % 6, 6, 4)
        self.assertEqual((live.wrong(), live.ways_on(), live.sees_now((23,))), (None, [], False))
        live.step(5, 6, 4)
        self.assertEqual((live.wrong(), live.closed(4)[1]), (24, 4))


class WrongTest(unittest.TestCase):
    def unchanged(self, live, error, call, *arguments):
        before = state_of(live)
        self.assertRaises(error, call, *arguments)
        self.assertEqual(state_of(live), before)

    def test_steps(self):
        for live in (live_of(FORKED, [(0, 0, 0), (1, 1, 0)]), Live(FORKED)):
            for thing in odd_things() + [2, "1", (1,), (0, 0, 0)]:
                self.unchanged(live, NoStep, live.step, thing, 0, 0)
                self.unchanged(live, NoStep, live.step, 0, thing, 0)
                self.unchanged(live, NoStep, live.step, 0, 0, thing)
                self.unchanged(live, NoStep, live.step, thing, thing, thing)
        live = Live(Office((4, 3, 2), ((),), ((),)))
        for step in product((-1, 0, 1, 2, 3, 4), repeat=3):
            if all(0 <= part < size for part, size in zip(step, (4, 3, 2))):
                live.step(*step)
                self.assertEqual(live.so_far()[-1], step)
            else:
                self.unchanged(live, NoStep, live.step, *step)

    def test_lots(self):
        live = live_of(LOAF, [(1, 0, 0), (1, 0, 0)])
        for thing in odd_things() + [(2,), (-1,), (0, 0), (1, 0), (0, 1, 2), [0], [], (True,), (0, True), 0, range(1),
                                     {0}, frozenset([0]), (0.0,), ((0,),), (10 ** 39,)]:
            if thing != ():
                self.unchanged(live, NoLot, live.sees_now, thing)
        for thing in odd_things():
            self.unchanged(live, NoLot, live.sees_now, (0, thing))
        live.step(0, 1, 0)
        self.assertIs(live.sees_now((2,)), False)
        live.back()
        self.unchanged(live, NoLot, live.sees_now, (2,))

    def test_marks(self):
        live = live_of(LOAF, [(1, 0, 0)])
        for thing in odd_things() + [1, "0", (0,), [0]]:
            self.unchanged(live, NoMark, live.closed, thing)
            self.unchanged(live, NoMark, Live(LOAF).closed, thing)
        self.assertEqual(live_of(FORKED, []).closed(1), ((), 1))
        self.assertRaises(NoMark, Live(FORKED).closed, 2)

    def test_kinds(self):
        live = live_of(FORKED, [(0, 0, 0)])
        self.assertIsInstance(live.ways_on(), list)
        live.ways_on().append(None)
        live.ways_on().clear()
        self.assertEqual(live.ways_on(), [(0, 0, 0), (0, 1, 1), (1, 0, 1), (1, 1, 0)])
        self.assertIsInstance(live.sees_now(()), bool)
        self.assertIs(type(live.so_far()), tuple)
        for thing in odd_things() + [Desk(), live.so_far(), None]:
            self.assertFalse(live == thing)
            self.assertTrue(live != thing)
        for name in METHODS:
            self.assertIn(name, vars(Live))


class BackTest(unittest.TestCase):
    def test_copies(self):
        live = live_of(LOAF, [(1, 0, 0), (0, 1, 0)])
        other = live.copy()
        self.assertIsInstance(other, Live)
        self.assertEqual(state_of(other), state_of(live))
        other.step(1, 1, 0)
        self.assertEqual((live.depth(), other.depth()), (2, 3))
        live.back()
        live.back()
        self.assertRaises(NothingDone, live.back)
        self.assertEqual(other.so_far(), ((1, 0, 0), (0, 1, 0), (1, 1, 0)))
        for _ in range(3):
            other.back()
        self.assertRaises(NothingDone, other.back)
        self.assertEqual(Live(LOAF).copy().depth(), 0)
        self.assertRaises(NothingDone, Live(LOAF).copy().back)

    def test_any_order(self):
        rng = random.Random(207)
        for office in [FORKED, LOAF] + small_offices(20, 208):
            lives = [(Live(office), [])]
            for _ in range(120):
                live, model = rng.choice(lives)
                word = rng.choice(["step", "step", "step", "back", "copy", "wrong step", "trying"])
                if word == "step":
                    step = rng.choice(all_steps(office))
                    self.assertIsNone(live.step(*step))
                    model.append(step)
                elif word == "wrong step":
                    self.assertRaises(NoStep, live.step, 0, 0, 4)
                elif word == "back" and model:
                    self.assertIsNone(live.back())
                    model.pop()
                elif word == "back":
                    self.assertRaises(NothingDone, live.back)
                elif word == "copy" and len(lives) < 6:
                    lives.append((live.copy(), list(model)))
                elif word == "trying":
                    live.trying(lambda tried: [tried.step(0, 0, 0), tried.back(), tried.step(0, 0, 0)])
                for told, right in lives:
                    self.assertEqual((told.so_far(), told.depth()), (tuple(right), len(right)))
                    self.assertEqual(told.wrong(), slow_wrong(office, tuple(right)))


class TryingTest(unittest.TestCase):
    def setUp(self):
        self.live = live_of(LOAF, [(1, 0, 0), (0, 1, 0)])
        self.before = state_of(self.live)

    def test_results(self):
        asked = []

        def action(live):
            asked.append(live)
            live.step(1, 0, 0)
            return live.wrong(), live.depth()

        self.assertEqual(self.live.trying(action), (2, 3))
        self.assertEqual(len(asked), 1)
        self.assertIs(asked[0], self.live)
        self.assertEqual(state_of(self.live), self.before)
        thing = object()
        self.assertIs(self.live.trying(lambda live: thing), thing)
        self.assertIsNone(self.live.trying(lambda live: None))
        self.assertIs(self.live.trying(lambda live: live), self.live)
        self.assertIsNone(self.live.trying(Live.back))
        self.assertEqual(state_of(self.live), self.before)

    def test_takes_back_what_was_done_ahead(self):
        def action(live):
            live.back()
            live.back()
            self.assertRaises(NothingDone, live.back)
            live.step(0, 1, 0)
            return live.so_far()

        self.assertEqual(self.live.trying(action), ((0, 1, 0),))
        self.assertEqual(state_of(self.live), self.before)
        self.live.back()
        self.assertEqual(self.live.so_far(), ((1, 0, 0),))
        self.live.back()
        self.assertRaises(NothingDone, self.live.back)

    def test_errors(self):
        class Own(Exception):
            pass

        def fails(error):
            def action(live):
                live.step(0, 1, 0)
                live.back()
                live.back()
                raise error
            return action

        for error in (Own(), KeyError("a"), FalseError(), NothingDone(), KeyboardInterrupt(), StopIteration(),
                      ZeroDivisionError(), RecursionError()):
            with self.assertRaises(type(error)) as caught:
                self.live.trying(fails(error))
            self.assertIs(caught.exception, error)
            self.assertEqual(state_of(self.live), self.before)
        for call in (lambda live: [live.step(1, 0, 0), live.step(2, 0, 0)], lambda live: live.sees_now((5,)),
                     lambda live: [live.back(), live.back(), live.back()], lambda live: live.closed(1)):
            self.assertRaises(FalseError, self.live.trying, call)
            self.assertEqual(state_of(self.live), self.before)
        self.assertRaises(NothingDone, Live(LOAF).trying, Live.back)

    def test_tries_in_its_turn(self):
        def inner(live):
            live.back()
            live.back()
            live.back()
            live.step(0, 1, 0)
            raise ValueError()

        def outer(live):
            live.step(1, 1, 0)
            told = state_of(live)
            self.assertRaises(ValueError, live.trying, inner)
            self.assertEqual(state_of(live), told)
            self.assertEqual(live.trying(lambda tried: [tried.back(), tried.depth()]), [None, 2])
            self.assertEqual(state_of(live), told)
            live.back()
            live.back()
            return live.so_far()

        self.assertEqual(self.live.trying(outer), ((1, 0, 0),))
        self.assertEqual(state_of(self.live), self.before)

        def deep(live, left):
            live.step(0, 1, 0)
            if left:
                live.trying(lambda tried: deep(tried, left - 1))
                self.assertEqual(live.depth(), 2 + 21 - left)
            return live.depth()

        self.assertEqual(self.live.trying(lambda live: deep(live, 20)), 3)
        self.assertEqual(state_of(self.live), self.before)

    def test_copies_go_on(self):
        kept = []

        def action(live):
            live.step(0, 1, 0)
            kept.append(live.copy())
            live.back()
            live.back()

        self.live.trying(action)
        self.assertEqual(state_of(self.live), self.before)
        self.assertEqual(kept[0].so_far(), self.before[0] + ((0, 1, 0),))
        other = self.live.copy()
        other.trying(Live.back)
        self.assertEqual(state_of(other), self.before)

        def steps_elsewhere(live):
            other.step(1, 1, 0)

        self.live.trying(steps_elsewhere)
        self.assertEqual((self.live.depth(), other.depth()), (2, 3))


if __name__ == "__main__":
    unittest.main()
