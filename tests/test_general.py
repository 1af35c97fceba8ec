"""0.2 to 0.5: what holds for all functions: arguments stay, answers are equal and new, nothing is too deep."""

import copy
import unittest

from falsedays.alone import is_learning, learning, left
from falsedays.chains import chained, same_days
from falsedays.claims import convicting, heights, is_heights, least_lies, surely_lying
from falsedays.clerks import caught, led
from falsedays.colours import coloured, good_colours
from falsedays.counting import day_at, day_number, many_days, many_with
from falsedays.desk import Desk
from falsedays.errors import (FalseError, NoBoard, NoClaims, NoColours, NoDay, NoFact, NoLine, NoLot, NoMark, NoMove,
                              NoNote, NoNumber, NoPrices, NoShape, NoSlips, NoStanding, NoStep, NoSteps, NotWhole,
                              NoWeb, NoWorths, TooMany)
from falsedays.facts import holds, is_fact, known
from falsedays.keeping import is_sure, keeps, most_kept, served, unseen_days
from falsedays.live import Live
from falsedays.merging import merged, rule_text
from falsedays.neighbours import (crossing, enough, is_crossing, is_paper, is_round, least_k, paper, round_of)
from falsedays.offices import Office, board, is_day, is_true, notes, some_true, true_days
from falsedays.proving import (can_prove, forging, indiscreet, is_forging, is_indiscreet, settled, shown_places)
from falsedays.readers import reader, stand
from falsedays.reading import read_day, read_office
from falsedays.rules import read_rule
from falsedays.shares import cheapest_lot, least_proofs, most_proofs, shares
from falsedays.shop import Shop
from falsedays.tales import is_tale, least_tale, seeing, tale, unseen
from falsedays.texts import day_text, office_text
from falsedays.webs import exchanges, is_tree, is_web, shape_false, web_false
from tests.helpers import (FORKED, HUNG_UP, LOAF, SIXTY, SIXTY_ONE, clock_office, echo_office, nested, odd_things,
                           slow_is_crossing, slow_is_round, slow_is_true, small_offices, wide_office)

DAY = (((1, 0, 0), (1, 0, 0)), 0)
FACT = (((0, 0, 1, 0), (1, 1, 1, 1)), (1,))
STEPS = ((0, 1, 0), (1, 0, 0))
TRUE_DAY = (STEPS, 0)
BOARD = ((0, 0), 0)
CLAIMS = ((1, 0), (1, 0))
BOUNDS = ((0, None), (1, 0), (2, 1))
WEB = ((0,), (1,))


def greedy(slips, closing):
    """A clerk of LOAF who gives everybody a loaf."""
    return 0 if closing else (1 - slips[-1], 0)



CALLS = [(is_day, (DAY,)), (is_true, (DAY,)), (notes, (DAY,)), (board, (DAY,)), (true_days, (3,)), (some_true, (9,)),
         (reader, ()), (stand, (STEPS,)), (tale, (DAY, (0,))), (least_tale, (DAY, (0,))), (is_tale, (DAY, (0,), DAY)),
         (unseen, (DAY, 1)), (seeing, (DAY,)), (is_fact, (FACT,)), (holds, (FACT, DAY)), (known, (FACT, DAY, ())),
         (enough, (1,)), (least_k, ()), (crossing, (2,)), (is_crossing, (1, DAY)), (round_of, ()), (is_round, (DAY,)),
         (paper, (1,)), (is_paper, (1, DAY)), (left, (BOARD, 0, (1, 0))), (learning, ()), (is_learning, (DAY,)),
         (forging, ()), (is_forging, (DAY,)), (can_prove, (TRUE_DAY, 0)), (shown_places, (TRUE_DAY,)),
         (settled, (BOARD,)), (indiscreet, ()), (is_indiscreet, (DAY,)), (is_sure, ()), (served, ((0, 1, 1),)),
         (keeps, ((5, 0), DAY)), (most_kept, ((5, 0), 1, 3)), (unseen_days, (1, 3)), (coloured, ((0,),)),
         (good_colours, (1,)), (least_lies, (BOARD, CLAIMS)), (heights, (BOARD, CLAIMS)),
         (is_heights, (BOARD, CLAIMS, 1, BOUNDS)), (surely_lying, (BOARD, CLAIMS)),
         (convicting, (BOARD, CLAIMS)), (chained, (HUNG_UP,)), (same_days, (LOAF,)), (many_days, (9, 100)),
         (day_at, (5, 7)), (day_number, (TRUE_DAY,)), (many_with, (BOARD,)), (read_day, ("step 1 0 0\nlast 0\n",)),
         (office_text, ()), (web_false, (2, WEB)), (exchanges, (2, WEB)), (shape_false, (2, (0,))), (Live, ()),
         (led, (greedy, (1, 1))), (caught, (greedy, 3)), (shares, (1, 2)), (most_proofs, (2,)), (least_proofs, (2,)),
         (cheapest_lot, (DAY, (3, 4))), (merged, ()), (rule_text, ()), (Shop, ())]
# Right arguments, and for each what is raised in the place of which wrong one: in an order in which each is met alone.
# None stands for a judge, False for an argument that nothing is said of.
NAMED = [(is_day, (DAY,), (None,)), (is_true, (DAY,), (None,)), (notes, (DAY,), (NoDay,)), (board, (DAY,), (NoDay,)),
         (true_days, (3,), (NoNumber,)), (some_true, (9,), (NoNumber,)), (stand, (STEPS,), (NoSteps,)),
         (tale, (DAY, (0,)), (NoDay, NoLot)), (least_tale, (DAY, (0,)), (NoDay, NoLot)),
         (is_tale, (DAY, (0,), DAY), (NoDay, NoLot, None)), (unseen, (DAY, 1), (NoDay, NoNumber)),
         (seeing, (DAY,), (NoDay,)), (is_fact, (FACT,), (None,)), (holds, (FACT, DAY), (NoFact, NoDay)),
         (known, (FACT, DAY, ()), (NoFact, NoDay, NoLot)), (enough, (1,), (NoNumber,)), (crossing, (2,), (NoNumber,)),
         (is_crossing, (1, DAY), (NoNumber, None)), (is_round, (DAY,), (None,)), (paper, (1,), (NoNumber,)),
         (is_paper, (1, DAY), (NoNumber, None)), (left, (BOARD, 0, (1, 0)), (NoBoard, NoNumber, NoNote)),
         (is_learning, (DAY,), (None,)), (is_forging, (DAY,), (None,)),
         (can_prove, (TRUE_DAY, 0), (NoDay, NoNumber)), (shown_places, (TRUE_DAY,), (NoDay,)),
         (settled, (BOARD,), (NoBoard,)), (is_indiscreet, (DAY,), (None,)), (served, ((0, 1, 1),), (NoSlips,)),
         (keeps, ((5, 0), DAY), (NoWorths, NoDay)),
         (most_kept, ((5, 0), 1, 3), (NoWorths, NoNumber, NoNumber)), (unseen_days, (1, 3), (NoNumber, NoNumber)),
         (coloured, ((0,),), (NoColours,)), (good_colours, (1,), (NoNumber,)),
         (least_lies, (BOARD, CLAIMS), (NoBoard, NoClaims)), (heights, (BOARD, CLAIMS), (NoBoard, NoClaims)),
         (is_heights, (BOARD, CLAIMS, 1, BOUNDS), (NoBoard, NoClaims, NoNumber, None)),
         (surely_lying, (BOARD, CLAIMS), (NoBoard, NoClaims)), (convicting, (BOARD, CLAIMS), (NoBoard, NoClaims)),
         (many_days, (9, 100), (NoNumber, NoNumber)), (day_at, (5, 7), (NoNumber, NoNumber)),
         (day_number, (TRUE_DAY,), (NoDay,)), (many_with, (BOARD,), (NoBoard,)),
         (web_false, (2, WEB), (NoNumber, NoWeb)), (exchanges, (2, WEB), (NoNumber, NoWeb)),
         (shape_false, (2, (0,)), (NoNumber, NoShape)), (led, (greedy, (1, 1)), (False, NoSlips)),
         (caught, (greedy, 3), (False, NoNumber)), (shares, (1, 2), (NoNumber, NoNumber)),
         (most_proofs, (2,), (NoNumber,)), (least_proofs, (2,), (NoNumber,)),
         (cheapest_lot, (DAY, (3, 4)), (NoDay, NoPrices)),
         (lambda office, thing: is_web(2, thing), (WEB,), (None,)),
         (lambda office, thing: is_tree(2, thing), (WEB,), (None,)),
         (lambda office, *things: Live(office).step(*things), (1, 0, 0), (NoStep, NoStep, NoStep)),
         (lambda office, thing: Live(office).sees_now(thing), ((),), (NoLot,)),
         (lambda office, thing: Live(office).closed(thing), (0,), (NoMark,)),
         (lambda office, thing: Desk().tell(thing), ("names",), (NoLine,)),
         (lambda office, *things: Shop(office).put(*things), (0, 1, 1, 0, 1),
          (NoStanding, NoStep, NoStep, NoStep, NoStanding)),
         (lambda office, *things: Shop(office).strike(*things), (0, 0), (NoStanding, NoMove)),
         (lambda office, *things: Shop(office).shuts_not(*things), (0, 0), (NoStanding, NoMark))]
# Those that always return a list; here with arguments for which it is not empty.
LISTS = [(true_days, (2,)), (seeing, (DAY,)), (unseen_days, (1, 2)), (convicting, (BOARD, CLAIMS)),
         (settled, (((0,), 0),)), (good_colours, (200,))]
RIGHT_OF_HUNG_UP = [(settled, (((1, 0), 0),)), (good_colours, (1,))]


class GeneralTest(unittest.TestCase):
    def test_equal_calls_and_unchanged_arguments(self):
        for function, arguments in CALLS:
            office = Office(LOAF.sizes, LOAF.moves, LOAF.closings)
            before = copy.deepcopy(arguments)
            first = function(office, *arguments)
            again = function(Office(LOAF.sizes, LOAF.moves, LOAF.closings), *arguments)
            if function not in (Live, Shop):
                self.assertEqual(first, again, function)
                self.assertEqual(function(office, *arguments), first, function)
            self.assertEqual(arguments, before)
            self.assertTrue(office == LOAF)
            self.assertEqual(sorted(vars(office)), ["closings", "moves", "sizes"])

    def test_lists_are_new(self):
        calls = [(LOAF,) + call for call in LISTS] + [(HUNG_UP,) + call for call in RIGHT_OF_HUNG_UP]
        for office, function, arguments in calls:
            first = function(office, *arguments)
            self.assertIsInstance(first, list)
            kept = list(first)
            first.append(None)
            self.assertEqual(function(office, *arguments), kept)
            first.clear()
            self.assertEqual(function(office, *arguments), kept)
        self.assertTrue(all(function(HUNG_UP, *arguments) for function, arguments in RIGHT_OF_HUNG_UP))

    def test_equal_calls_without_an_office(self):
        web = ((0, 1), (1, 2))
        for function, arguments in ((is_web, (3, web)), (is_tree, (3, web)), (day_text, (DAY,))):
            before = copy.deepcopy(arguments)
            self.assertEqual(function(*arguments), function(*arguments))
            self.assertEqual(arguments, before)

    def test_lives_and_desks_of_equal_calls(self):
        lives, desks = [Live(LOAF), Live(Office(LOAF.sizes, LOAF.moves, LOAF.closings))], [Desk(), Desk()]
        for live in lives:
            live.step(1, 0, 0)
            live.step(0, 0, 0)
        for name, arguments in (("so_far", ()), ("wrong", ()), ("ways_on", ()), ("sees_now", ((0,),)), ("depth", ()),
                                ("closed", (0,))):
            told = [getattr(live, name)(*arguments) for live in lives + lives]
            self.assertEqual(told, told[:1] * 4)
        for line in (f"office a {office_text(LOAF)}".replace("\n", "|"), "names", "least a", "many a 7", "undo"):
            told = [desk.tell(line) for desk in desks]
            self.assertEqual(told, told[:1] * 2)
        self.assertFalse(lives[0] == LOAF)
        self.assertFalse(LOAF == lives[0])
        self.assertFalse(desks[0] == lives[0])

    def test_read_offices_are_equal(self):
        for function, text in ((read_office, "office 1 1 1\nat 0\nmove 0 0 0 0\ncloses 0\n"),
                               (read_rule, "office 1 1 1\neach\nclose\nend\n")):
            self.assertTrue(function(text) == function(text))
            self.assertIsNot(function(text), function(text))
            self.assertTrue(function(text) == Office((1, 1, 1), (((0, 0, 0, 0),),), ((0,),)))

    def test_handed_in_lists_stay(self):
        sizes, moves, steps = [1, 1, 1], [[(0, 0, 0, 0)]], [[0, 0, 0]]
        for call in (lambda: Office(sizes, moves, [[0]]), lambda: stand(LOAF, steps), lambda: tale(LOAF, DAY, steps),
                     lambda: left(LOAF, (steps, 0), 0, (0, 0)), lambda: settled(LOAF, (steps, 0)),
                     lambda: served(LOAF, sizes), lambda: keeps(LOAF, sizes, DAY), lambda: coloured(LOAF, sizes),
                     lambda: least_lies(LOAF, BOARD, steps), lambda: convicting(LOAF, BOARD, steps),
                     lambda: many_with(LOAF, (sizes, 0)), lambda: day_number(LOAF, (steps, 0)),
                     lambda: read_rule(sizes), lambda: read_office(moves), lambda: read_day(LOAF, steps),
                     lambda: web_false(LOAF, 2, steps), lambda: exchanges(LOAF, 2, moves), lambda: Desk().tell(steps),
                     lambda: shape_false(LOAF, 2, sizes), lambda: Live(LOAF).step(sizes, moves, steps),
                     lambda: Live(LOAF).sees_now(sizes), lambda: Live(LOAF).closed(steps)):
            self.assertRaises(FalseError, call)
        self.assertEqual((sizes, moves, steps), ([1, 1, 1], [[(0, 0, 0, 0)]], [[0, 0, 0]]))

    def test_flags(self):
        for function, arguments in CALLS:
            if function.__name__.startswith("is_") or function in (unseen, holds, enough, can_prove, exchanges):
                self.assertIsInstance(function(LOAF, *arguments), bool)
        for thing in odd_things() + [(), ((0,),)]:
            self.assertIsInstance(is_web(3, thing), bool)
            self.assertIsInstance(is_tree(3, thing), bool)
        self.assertIsInstance(Live(LOAF).sees_now(()), bool)

    def test_odd_things_at_each_argument(self):
        things = odd_things() + [nested(0, 40), nested((0, 0), 38), nested({0: [()]}, 37), [[]] * 4999, ((),) * 9998,
                                 {at: None for at in range(4999)}, tuple([[None]] * 4999), "x" * 9999]
        for function, arguments, errors in NAMED:
            right = function(LOAF, *arguments)
            for at, error in enumerate(errors):
                for thing in things:
                    told = arguments[:at] + (thing,) + arguments[at + 1:]
                    if error is None:
                        self.assertIsInstance(function(LOAF, *told), bool)
                    elif error is not False and not self.fits_there(function, error, thing):
                        with self.assertRaises(error) as told_error:
                            function(LOAF, *told)
                        self.assertEqual(type(told_error.exception), error)
                        # Of several the first one that is named is raised, whatever stands behind.
                        wrong = tuple(thing if place >= at and errors[place] else part
                                      for place, part in enumerate(arguments))
                        self.assertRaises(error, function, LOAF, *wrong)
            if isinstance(right, (bool, int, tuple, list)):
                self.assertEqual(function(LOAF, *arguments), right)

    def fits_there(self, function, error, thing):
        """Whether an odd thing is no wrong one here: some numbers, the empty tuple and tuples of it may be right."""
        if type(thing) is int:
            return function in (is_heights, many_days) and error is NoNumber
        empty = thing in ((), ((),), ((), (), ())) or thing == ((),) * 9998
        return empty and error in (NoSteps, NoLot, NoSlips, NoWeb)

    def test_judges_of_anything(self):
        for thing in odd_things() + [nested(0, deep) for deep in range(41)] + [nested((0, 0, 0), 38)]:
            for office in (LOAF, HUNG_UP, FORKED):
                self.assertIs(is_true(office, thing), False)
                self.assertIs(is_fact(office, thing), False)
                self.assertIs(is_tale(office, ((), 0), (), thing), False)
                self.assertIs(is_crossing(office, 200, thing), False)
                self.assertIs(is_round(office, thing), False)
                self.assertIs(is_paper(office, 1, thing), False)
                self.assertIs(is_paper(office, 200, thing), False)
                self.assertIs(is_learning(office, thing), False)
                self.assertIs(is_forging(office, thing), False)
                self.assertIs(is_indiscreet(office, thing), False)
                self.assertIs(is_heights(office, ((0, 0), 0), ((0, 0), (0, 0)), 0, thing), False)
                self.assertIs(is_heights(office, ((), 0), (), 0, thing), False)

    def test_great_numbers(self):
        for number in (10 ** 39, 10 ** 40 - 1, -(10 ** 40 - 1)):
            self.assertIs(is_true(LOAF, (((number, 0, 0),), 0)), False)
            self.assertIs(is_true(LOAF, ((), number)), False)
            self.assertIs(is_fact(LOAF, (((0, 0, 0, number),), ())), False)
            self.assertIs(is_paper(HUNG_UP, 1, ((((0, number),),), ())), False)
            for call in (lambda k: true_days(LOAF, k), lambda k: some_true(LOAF, k), lambda k: unseen(LOAF, DAY, k),
                         lambda k: enough(LOAF, k), lambda k: left(LOAF, ((0,), 0), k, (0, 0)),
                         lambda k: can_prove(LOAF, TRUE_DAY, k), lambda k: keeps(LOAF, (0, k), DAY),
                         lambda k: most_kept(LOAF, (0, 0), k, 2), lambda k: most_kept(LOAF, (0, 0), 1, k),
                         lambda k: unseen_days(LOAF, k, 2), lambda k: unseen_days(LOAF, 2, k),
                         lambda k: good_colours(LOAF, k), lambda k: coloured(HUNG_UP, (0, k)),
                         lambda k: served(LOAF, (0, k)), lambda k: many_days(LOAF, k, 7),
                         lambda k: many_days(LOAF, 7, k), lambda k: day_at(LOAF, k, 0),
                         lambda k: day_at(LOAF, 3, k), lambda k: settled(LOAF, ((k,), 0)),
                         lambda k: least_lies(LOAF, BOARD, ((0, 0), (0, k))), lambda k: many_with(LOAF, ((), k)),
                         lambda k: is_web(k, ()), lambda k: is_tree(k, ()), lambda k: web_false(LOAF, k, ()),
                         lambda k: web_false(LOAF, 3, ((k,),)), lambda k: exchanges(LOAF, k, ()),
                         lambda k: shape_false(LOAF, k, (0,)), lambda k: shape_false(LOAF, 3, (0, k)),
                         lambda k: Live(LOAF).step(0, k, 0), lambda k: Live(LOAF).closed(k),
                         lambda k: Live(LOAF).sees_now((k,)), lambda k: Desk().tell(f"many a {k}"),
                         lambda k: led(LOAF, greedy, (0, k)), lambda k: caught(LOAF, greedy, k),
                         lambda k: led(LOAF, lambda slips, closing: k, ()), lambda k: shares(LOAF, k, 1),
                         lambda k: shares(LOAF, 1, k), lambda k: most_proofs(LOAF, k),
                         lambda k: least_proofs(LOAF, k), lambda k: cheapest_lot(LOAF, DAY, (0, k)),
                         lambda k: Shop(LOAF).put(0, 0, 0, 0, k), lambda k: Shop(LOAF).strike(k, 0),
                         lambda k: Shop(LOAF).strike(0, k), lambda k: Shop(LOAF).shuts(0, k)):
                self.assertRaises(FalseError, call, number)
            self.assertIs(is_heights(LOAF, BOARD, CLAIMS, number, ((0, None), (1, 0), (2, 1))), number < 0)

    def test_offices_beyond_the_bounds_of_the_constructor(self):
        # 25 standings in a row, six slips, and at the last one a seventh answer.
        rows = tuple(((at % 6, 6, 4, at + 1),) for at in range(24)) + ((),)
        office = wide_office((6, 7, 5), rows, ((),) * 24 + ((4,),))
        steps = tuple((at % 6, 6, 4) for at in range(24))
        self.assertEqual(some_true(office, 24), (steps, 4))
        self.assertIs(is_true(office, (steps, 4)), True)
        self.assertEqual(stand(office, steps), 24)
        self.assertEqual(len(reader(office)[0]), 25)
        self.assertEqual(tale(office, (steps, 4), (0, 23)), (steps, 4))
        self.assertEqual(least_k(office), 1)
        self.assertEqual(left(office, ((4,) * 24, 4), 3, (3, 6)), 1)
        self.assertIs(is_fact(office, (((0,) * 210,), ())), True)

    def test_returned_days_may_be_passed_on(self):
        office = clock_office(15, 14)
        one, other, _ = crossing(office, 200)
        self.assertGreater(len(one[0]), 200)
        self.assertIs(is_true(office, one), True)
        self.assertEqual(least_tale(office, one, tuple(range(len(one[0])))), one)
        self.assertIs(is_crossing(office, 200, crossing(office, 200)), True)
        self.assertIs(is_learning(office, learning(office)), True)
        self.assertEqual(len(notes(office, other)), len(other[0]))

    def test_returned_kinds(self):
        # Only tuples, integers and strings stand in what is returned, so a judge takes it.
        def check(thing):
            if isinstance(thing, tuple):
                for part in thing:
                    check(part)
            else:
                self.assertIn(type(thing), (int, str, type(None)))
        for office in [LOAF, FORKED, HUNG_UP, echo_office(2)] + small_offices(40, 36):
            for thing in (forging(office), indiscreet(office), heights(office, ((0, 0), 0), ((0, 0), (0, 0))),
                          least_lies(office, ((0, 0), 0), ((0, 0), (0, 0))), tuple(unseen_days(office, 2, 2)),
                          reader(office), crossing(office, 1), round_of(office), paper(office, 2), learning(office),
                          some_true(office, 3), known(office, (((0,) * 8,), ()), ((), 0), ())
                          if office.sizes == (2, 2, 2) else 0):
                check(thing)

    def test_days_of_200_and_more(self):
        for many in (200, 230):
            steps = ((1, 0, 0),) + ((0, 1, 0),) * (many - 2) + ((1, 0, 0),)
            self.assertIs(is_true(LOAF, (steps, 0)), False)
            self.assertIs(unseen(LOAF, (steps, 0), 20), True)
            self.assertEqual(stand(LOAF, steps), -1)
            found = tale(LOAF, (steps, 0), (many - 1,))
            self.assertTrue(slow_is_true(LOAF, found))
            self.assertEqual(known(LOAF, FACT, (steps, 0), (0,))[0], "yes")

    def test_long_crossings_and_rounds_are_judged(self):
        one = (((1, 0, 0),) + ((0, 1, 0),) * 150 + ((1, 1, 0),), 0)
        other = (((0, 1, 0),) * 151 + ((1, 0, 0),), 0)
        for place in (1, 150, 151):
            thing = (one, other, place)
            self.assertIs(is_crossing(LOAF, place, thing), True)
            self.assertTrue(slow_is_crossing(LOAF, place, thing))
            self.assertIs(is_crossing(LOAF, place + 1, thing), False)
        turn = (one[0][:1], other[0][:1], ((0, 1, 0),) * 100, ((0, 1, 0),) * 100, ((1, 1, 0),), ((1, 0, 0),), 0)
        self.assertIs(is_round(LOAF, turn), True)
        self.assertTrue(slow_is_round(LOAF, turn))

    def test_too_many_only_where_named(self):
        day = (((0, 0, 0),), 0)
        for function, arguments in [(is_day, (day,)), (is_true, (day,)), (notes, (day,)), (board, (day,)),
                                    (true_days, (1,)), (some_true, (1,)), (tale, (day, ())), (least_tale, (day, ())),
                                    (is_tale, (day, (), day)), (unseen, (day, 1)), (seeing, (day,)),
                                    (is_fact, (None,)), (holds, ((((0,) * 64,), ()), day)),
                                    (known, ((((0,) * 64,), ()), day, ())), (is_crossing, (1, (day, day, 1))),
                                    (is_learning, ((day, day, 0),)), (forging, ()), (is_forging, ((day, day, 0),)),
                                    (can_prove, (day, 0)), (shown_places, (day,)), (settled, (((0,), 0),)),
                                    (indiscreet, ()), (is_indiscreet, ((day, 0),)), (unseen_days, (4, 1)),
                                    (coloured, ((0, 1, 2, 3),)), (chained, (SIXTY_ONE,)),
                                    (read_day, ("last 0\n",)), (office_text, ()), (web_false, (1, ((0,),))),
                                    (exchanges, (1, ((0,),))), (shape_false, (1, (0,))), (led, (greedy, ())),
                                    (led, (lambda slips, closing: 3 if closing else (3, 3), (3, 3))),
                                    (caught, (lambda slips, closing: 3 if closing else (3, 3), 2)),
                                    (shares, (4, 1)), (most_proofs, (1,)), (least_proofs, (1,)),
                                    (cheapest_lot, (day, (0,)))]:
            function(SIXTY_ONE, *arguments)
        self.assertRaises(NotWhole, rule_text, SIXTY)
        for function in (merged, rule_text):
            self.assertRaises(TooMany, function, SIXTY_ONE)
        live = Live(SIXTY_ONE)
        live.step(3, 3, 3)
        live.trying(lambda tried: [tried.step(0, 0, 0), tried.wrong(), tried.ways_on(), tried.sees_now((0,)),
                                   tried.sees_now(()), tried.closed(3), tried.copy(), tried.so_far(), tried.back()])


if __name__ == "__main__":
    unittest.main()
