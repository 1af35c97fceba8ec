"""What holds for the whole program: names tell nothing, and offices that were returned are offices for every function."""

import random
import unittest
from itertools import permutations

from falsedays.alone import is_learning, learning, left
from falsedays.chains import chained, same_days
from falsedays.claims import convicting, heights, is_heights, least_lies, surely_lying
from falsedays.clerks import caught, led
from falsedays.colours import coloured, good_colours
from falsedays.counting import day_at, day_number, many_days, many_with
from falsedays.desk import Desk
from falsedays.errors import BadOffice, NotWhole
from falsedays.facts import holds, is_fact, known
from falsedays.keeping import is_sure, keeps, most_kept, served, unseen_days
from falsedays.live import Live
from falsedays.merging import merged, rule_text
from falsedays.neighbours import crossing, enough, is_crossing, is_paper, is_round, least_k, paper, round_of
from falsedays.offices import Office, board, is_day, is_true, notes, some_true, true_days
from falsedays.proving import can_prove, forging, indiscreet, is_forging, is_indiscreet, settled, shown_places
from falsedays.readers import reader, stand
from falsedays.reading import read_day, read_office
from falsedays.shares import cheapest_lot, least_proofs, most_proofs, shares
from falsedays.shop import Shop
from falsedays.tales import is_tale, least_tale, seeing, tale, unseen
from falsedays.texts import day_text, office_text
from falsedays.webs import exchanges, shape_false, web_false
from tests.helpers import (FORKED, HUNG_UP, LOAF, NEVER, NOBODY, all_days, echo_office, outcome, small_offices,
                           wide_office)

OFFICES = [LOAF, HUNG_UP, FORKED, NEVER, NOBODY, echo_office(1)] + small_offices(25, 501)
# Standings that are never met, where offices are stretched.
JUNK = 20


def stretched_step(step):
    slip, answer, mark = step
    return slip, 2 * answer + 1, mark + 3


def stretched_day(day):
    return tuple(map(stretched_step, day[0])), day[1] + 3


def stretched_board(the_board):
    return tuple(mark + 3 for mark in the_board[0]), the_board[1] + 3


def stretched_note(note):
    return note[0], 2 * note[1] + 1


def stretched(office):
    """The office with greater answers and marks, more of them than there may be, and more standings; the order stays."""
    slips, answers, marks = office.sizes

    def far(at):
        return at + JUNK if at else 0

    rows = [tuple(stretched_step(move[:3]) + (far(move[3]),) for move in row) for row in office.moves]
    lasts = [tuple(mark + 3 for mark in row) for row in office.closings]
    junk = [((0, 0, 0, at), (0, 2 * answers + 1, 0, 0)) for at in range(1, JUNK + 1)]
    sizes = (slips, 2 * answers + 2, marks + 4)
    return wide_office(sizes, tuple(rows[:1] + junk + rows[1:]), tuple(lasts[:1] + [(0, 1)] * JUNK + lasts[1:]))


def other_standings(office, rng):
    """Offices with the same true days: standings in another order, never met, and twice."""
    many = len(office.moves)
    order = [0] + rng.sample(range(1, many), many - 1)
    moves, closings = [None] * many, [None] * many
    for at, row in enumerate(office.moves):
        moves[order[at]] = tuple(sorted(move[:3] + (order[move[3]],) for move in row))
        closings[order[at]] = office.closings[at]
    other_order = Office(office.sizes, tuple(moves), tuple(closings))
    lost = tuple(sorted(move[:3] + (many,) for move in office.moves[0][:1]))
    never_met = Office(office.sizes, office.moves + (lost,), office.closings + (tuple(range(office.sizes[2])),))
    doubled = []
    for row in office.moves + office.moves:
        found = set()
        for move in row:
            found |= {move[:3] + (goal,) for goal in rng.choice([[move[3]], [move[3] + many],
                                                                 [move[3], move[3] + many]])}
        doubled.append(tuple(sorted(found)))
    twice = Office(office.sizes, tuple(doubled), office.closings + office.closings)
    return [other_order, never_met, twice]


class Renaming:
    """Slips, answers and marks called otherwise."""

    def __init__(self, sizes, rng):
        self.slips, self.answers, self.marks = (rng.sample(range(size), size) for size in sizes)

    def step(self, step):
        return self.slips[step[0]], self.answers[step[1]], self.marks[step[2]]

    def day(self, day):
        return tuple(map(self.step, day[0])), self.marks[day[1]]

    def board(self, the_board):
        return tuple(self.marks[mark] for mark in the_board[0]), self.marks[the_board[1]]

    def note(self, note):
        return self.slips[note[0]], self.answers[note[1]]

    def office(self, office):
        return Office(office.sizes,
                      tuple(tuple(sorted(self.step(move[:3]) + (move[3],) for move in row)) for row in office.moves),
                      tuple(tuple(sorted(self.marks[mark] for mark in row)) for row in office.closings))


def some_days(office, rng, most=3):
    """Numbers of people, and days of so many of an office, some of them true."""
    found = []
    for many in range(most):
        days, true = all_days(office, many), true_days(office, many)
        found += rng.sample(days, min(len(days), 4)) + rng.sample(true, min(len(true), 2))
    return found


def some_lot(rng, many):
    return tuple(sorted(rng.sample(range(many), rng.randint(0, many))))


def mapped(thing, change):
    """A day that may be None, changed."""
    return None if thing is None else change(thing)


class StandingsTest(unittest.TestCase):
    """Standings in another order, standings twice or never met."""

    def alike(self, office, other, function, *arguments):
        self.assertEqual(outcome(function, office, *arguments), outcome(function, other, *arguments), function)

    def test_what_is_told_of_offices(self):
        rng = random.Random(502)
        for office in OFFICES:
            for other in other_standings(office, rng):
                for function, arguments in ((true_days, (2,)), (true_days, (3,)), (least_k, ()), (is_sure, ()),
                                            (enough, (1,)), (enough, (2,)), (many_days, (9, 10 ** 9)), (merged, ()),
                                            (rule_text, ()), (unseen_days, (1, 2)), (shares, (2, 3)),
                                            (most_proofs, (3,)), (least_proofs, (3,)), (shape_false, (3, (0, 2))),
                                            (web_false, (3, ((0, 1), (2,)))), (exchanges, (3, ((0, 1), (1, 2)))),
                                            (good_colours, (1,)), (day_at, (2, 1)), (served, ((0, 0),)),
                                            (most_kept, ((1,) * office.sizes[1], 1, 2))):
                    if function is merged:
                        self.assertTrue(merged(office) == merged(other))
                    else:
                        self.alike(office, other, function, *arguments)
                for function in (learning, forging, indiscreet, round_of):
                    self.assertEqual(function(office) is None, function(other) is None, function)
                self.assertIsNone(same_days(office, other))
                self.assertEqual(Shop(office).least(), Shop(other).least())

    def test_order_alone(self):
        # The reader numbers its sets as they are met, so the order of the standings says nothing.
        rng = random.Random(503)
        for office in OFFICES:
            other, never_met, _ = other_standings(office, rng)
            for same in (other, never_met):
                for function, arguments in ((reader, ()), (crossing, (1,)), (crossing, (2,)), (round_of, ()),
                                            (paper, (1,)), (paper, (2,))):
                    if function is reader:
                        self.alike(office, same, function, *arguments)
                    else:
                        self.assertEqual(function(office, *arguments) is None, function(same, *arguments) is None)
                for k in (1, 2):
                    one = crossing(same, k)
                    self.assertIs(is_crossing(office, k, one), one is not None)
                    one = paper(same, k)
                    self.assertIs(is_paper(office, k, one), one is not None)
                self.assertIs(is_round(office, round_of(same)), round_of(office) is not None)

    def test_what_is_told_of_days(self):
        rng = random.Random(504)
        for office in OFFICES:
            for other in other_standings(office, rng):
                for day in some_days(office, rng):
                    many = len(day[0])
                    lot = some_lot(rng, many)
                    the_board = board(office, day)
                    claims = tuple(step[:2] for step in day[0])
                    for function, arguments in (
                            (is_true, (day,)), (least_tale, (day, lot)), (unseen, (day, 1)), (unseen, (day, 2)),
                            (seeing, (day,)), (can_prove, (day, 0)), (shown_places, (day,)), (settled, (the_board,)),
                            (least_lies, (the_board, claims)), (surely_lying, (the_board, claims)),
                            (convicting, (the_board, claims)), (day_number, (day,)), (many_with, (the_board,)),
                            (left, (the_board, 0, (0, 0))), (cheapest_lot, (day, (3, 1, 2)[:many])),
                            (keeps, ((1,) * office.sizes[1], day))):
                        self.alike(office, other, function, *arguments)
                    found = tale(other, day, lot)
                    self.assertIs(is_tale(office, day, lot, found), found is not None)
                    lives = Live(office), Live(other)
                    for step in day[0]:
                        for live in lives:
                            live.step(*step)
                    told = [(live.wrong(), live.ways_on(), live.sees_now(lot)) for live in lives]
                    self.assertEqual(told[0], told[1])

    def test_clerks_and_desks(self):
        rng = random.Random(505)
        for office in OFFICES:
            def clerk(slips, closing):
                return 0 if closing else (0, 0)

            desk = Desk()
            desk.tell(f"office a {office_text(office)}".replace("\n", "|"))
            for other in other_standings(office, rng):
                for many in range(3):
                    self.alike(office, other, caught, clerk, many)
                desk.tell(f"office b {office_text(other)}".replace("\n", "|"))
                self.assertEqual(desk.tell("same a b"), "yes")
                for line in ("least", "alone", "shows", "discreet"):
                    self.assertEqual(desk.tell(f"{line} a"), desk.tell(f"{line} b"))


class RenamedTest(unittest.TestCase):
    """Slips, answers and marks called otherwise."""

    def test_what_is_told_of_offices(self):
        rng = random.Random(506)
        for office in OFFICES:
            renaming = Renaming(office.sizes, rng)
            other = renaming.office(office)
            for many in range(4):
                self.assertEqual(sorted(map(renaming.day, true_days(office, many))), true_days(other, many))
            for function, arguments in ((least_k, ()), (is_sure, ()), (enough, (1,)), (enough, (2,)),
                                        (many_days, (9, 10 ** 9)), (shares, (2, 3)), (exchanges, (3, ((0, 1), (1, 2)))),
                                        (lambda which: Shop(which).least(), ())):
                self.assertEqual(function(office, *arguments), function(other, *arguments))
            for k in (1, 2):
                self.assertEqual(sorted(map(renaming.day, unseen_days(office, k, 2))), unseen_days(other, k, 2))
            for function in (learning, forging, indiscreet, round_of, lambda which: web_false(which, 3, ((0, 1), (2,))),
                             lambda which: shape_false(which, 3, (0, 2)), lambda which: crossing(which, 2),
                             lambda which: paper(which, 2)):
                self.assertEqual(function(office) is None, function(other) is None)
            for function in (most_proofs, least_proofs):
                one, told = function(office, 3), function(other, 3)
                self.assertEqual(one and one[0], told and told[0])
            self.assertEqual((len(merged(office).moves), len(reader(office)[0])),
                             (len(merged(other).moves), len(reader(other)[0])))
            self.assertTrue(merged(renaming.office(merged(office))) == merged(other))

    def test_free_results(self):
        rng = random.Random(507)
        for office in OFFICES:
            renaming = Renaming(office.sizes, rng)
            other = renaming.office(office)
            one = crossing(office, 1)
            if one is not None:
                self.assertTrue(is_crossing(other, 1, (renaming.day(one[0]), renaming.day(one[1]), one[2])))
            one = learning(office)
            if one is not None:
                self.assertTrue(is_learning(other, (renaming.day(one[0]), renaming.day(one[1]), one[2])))
            one = forging(office)
            if one is not None:
                self.assertTrue(is_forging(other, (renaming.day(one[0]), renaming.day(one[1]), one[2])))
            one = indiscreet(office)
            if one is not None:
                self.assertTrue(is_indiscreet(other, (renaming.day(one[0]), one[1])))
            one = round_of(office)
            if one is not None:
                parts = tuple(tuple(map(renaming.step, part)) for part in one[:6])
                self.assertTrue(is_round(other, parts + (renaming.marks[one[6]],)))

    def test_what_is_told_of_days(self):
        rng = random.Random(508)
        for office in OFFICES:
            renaming = Renaming(office.sizes, rng)
            other = renaming.office(office)
            for day in some_days(office, rng):
                many = len(day[0])
                lot = some_lot(rng, many)
                told = renaming.day(day)
                the_board = board(office, day)
                self.assertEqual(renaming.board(the_board), board(other, told))
                for function, arguments in ((is_true, ()), (unseen, (1,)), (unseen, (2,)), (seeing, ()),
                                            (shown_places, ()), (can_prove, (0,)), (cheapest_lot, ((3, 1, 2)[:many],))):
                    self.assertEqual(outcome(function, office, day, *arguments),
                                     outcome(function, other, told, *arguments))
                self.assertEqual(least_tale(office, day, lot) is None, least_tale(other, told, lot) is None)
                self.assertEqual(sorted((place, renaming.slips[slip]) for place, slip in settled(office, the_board)),
                                 settled(other, board(other, told)))
                self.assertEqual(many_with(office, the_board), many_with(other, board(other, told)))
                claims = tuple(step[:2] for step in day[0])
                new_claims = tuple(map(renaming.note, claims))
                for function in (surely_lying, convicting):
                    self.assertEqual(function(office, the_board, claims),
                                     function(other, board(other, told), new_claims))
                one, found = least_lies(office, the_board, claims), least_lies(other, board(other, told), new_claims)
                self.assertEqual(one and one[0], found and found[0])
                if many:
                    self.assertEqual(left(office, the_board, 0, claims[0]),
                                     left(other, board(other, told), 0, new_claims[0]))
                lives = Live(office), Live(other)
                for step in day[0]:
                    lives[0].step(*step)
                    lives[1].step(*renaming.step(step))
                self.assertEqual((lives[0].wrong(), lives[0].sees_now(lot)), (lives[1].wrong(), lives[1].sees_now(lot)))
                self.assertEqual(sorted(map(renaming.step, lives[0].ways_on())), lives[1].ways_on())

    def test_chains_and_colours(self):
        for slips in permutations(range(2)):
            for answers in permutations(range(2)):
                # What stands between two offices of a chain may be called otherwise in both.
                renaming = Renaming(LOAF.sizes, random.Random(0))
                renaming.slips, renaming.answers = [0, 1], list(answers)
                first = renaming.office(LOAF)
                renaming.slips, renaming.answers = list(answers), [0, 1]
                chain, right = chained(first, renaming.office(LOAF)), chained(LOAF, LOAF)
                self.assertEqual((least_k(chain), len(merged(chain).moves)), (least_k(right), len(merged(right).moves)))
                self.assertEqual([len(true_days(chain, many)) for many in range(6)],
                                 [len(true_days(right, many)) for many in range(6)])
                renaming.slips, renaming.answers = list(slips), [0, 1]
                self.assertEqual(least_k(chained(renaming.office(LOAF), LOAF)), least_k(chained(LOAF, LOAF)))
        rng = random.Random(509)
        for office in OFFICES:
            renaming = Renaming(office.sizes, rng)
            other = renaming.office(office)
            self.assertEqual(len(good_colours(office, 2)), len(good_colours(other, 2)))
            one_colour = (0,) * office.sizes[2]
            self.assertEqual(least_k(coloured(office, one_colour)), least_k(coloured(other, one_colour)))


class StretchedTest(unittest.TestCase):
    """Offices that were returned, with more answers, marks and standings than the constructor takes."""

    def pairs(self):
        for office in OFFICES:
            yield office, stretched(office)

    def test_bounds(self):
        for _, wide in self.pairs():
            self.assertGreater(len(wide.moves), 20)
            self.assertGreater(max(wide.sizes), 4)
            self.assertRaises(BadOffice, Office, wide.sizes, wide.moves, wide.closings)
            self.assertRaises(BadOffice, read_office, office_text(wide))
            self.assertRaises(NotWhole, rule_text, wide)

    def test_what_is_told_of_offices(self):
        for office, wide in self.pairs():
            for many in range(4):
                self.assertEqual(list(map(stretched_day, true_days(office, many))), true_days(wide, many))
                self.assertEqual(some_true(office, many) is None, some_true(wide, many) is None)
            self.assertTrue(some_true(wide, 50) is None or is_true(wide, some_true(wide, 50)))
            moves, closings = reader(office)
            rows = tuple(tuple(stretched_step(move[:3]) + move[3:] for move in row) for row in moves)
            self.assertEqual(reader(wide), (rows, tuple(tuple(mark + 3 for mark in row) for row in closings)))
            for function, arguments in ((least_k, ()), (is_sure, ()), (enough, (1,)), (enough, (2,)),
                                        (many_days, (9, 10 ** 9)), (exchanges, (3, ((0, 1), (1, 2)))),
                                        (exchanges, (2, ((1,), (0,))))):
                self.assertEqual(function(office, *arguments), function(wide, *arguments))
            self.assertEqual(Shop(wide).least(), least_k(office))
            for k in (1, 2):
                self.assertEqual(list(map(stretched_day, unseen_days(office, k, 2))), unseen_days(wide, k, 2))
                self.assertEqual(shares(office, k, 2)[1:], shares(wide, k, 2)[1:])
            for web in (((0, 1), (2,)), ((0, 2), (1, 2))):
                self.assertEqual(mapped(web_false(office, 3, web), stretched_day), web_false(wide, 3, web))
            self.assertEqual(mapped(shape_false(office, 3, (0, 1)), stretched_day), shape_false(wide, 3, (0, 1)))
            for function in (most_proofs, least_proofs):
                one = function(office, 3)
                self.assertEqual(mapped(one, lambda pair: (pair[0], stretched_day(pair[1]))), function(wide, 3))
            self.assertIs(same_days(wide, wide), None)
            day = same_days(wide, wide_office(wide.sizes, ((),), ((),)))
            self.assertEqual(day is None, len(merged(office).moves) == 1 and merged(office).closings == ((),))

    def test_free_results(self):
        for office, wide in self.pairs():
            for k in (1, 2):
                self.assertEqual(crossing(wide, k) is None, crossing(office, k) is None)
                self.assertIs(is_crossing(wide, k, crossing(wide, k)), crossing(office, k) is not None)
                self.assertIs(is_paper(wide, k, paper(wide, k)), paper(office, k) is not None)
            for function, judge in ((round_of, is_round), (learning, is_learning), (forging, is_forging),
                                    (indiscreet, is_indiscreet)):
                self.assertEqual(function(wide) is None, function(office) is None)
                self.assertIs(judge(wide, function(wide)), function(office) is not None)

    def test_what_is_told_of_days(self):
        rng = random.Random(510)
        for office, wide in self.pairs():
            for day in some_days(office, rng):
                told = stretched_day(day)
                many = len(day[0])
                lot = some_lot(rng, many)
                the_board, new_board = board(office, day), board(wide, told)
                self.assertEqual(new_board, stretched_board(the_board))
                self.assertEqual(notes(wide, told), tuple(map(stretched_note, notes(office, day))))
                self.assertTrue(is_day(wide, told))
                self.assertEqual(stand(wide, told[0]), stand(office, day[0]))
                for function, arguments in ((is_true, ()), (unseen, (1,)), (unseen, (2,)), (seeing, ()),
                                            (shown_places, ()), (can_prove, (0,)), (day_number, ()),
                                            (cheapest_lot, ((3, 1, 2)[:many],))):
                    self.assertEqual(outcome(function, office, day, *arguments),
                                     outcome(function, wide, told, *arguments))
                self.assertEqual(mapped(least_tale(office, day, lot), stretched_day), least_tale(wide, told, lot))
                found = tale(wide, told, lot)
                self.assertIs(is_tale(wide, told, lot, found), found is not None)
                self.assertEqual(settled(office, the_board), settled(wide, new_board))
                self.assertEqual(many_with(office, the_board), many_with(wide, new_board))
                claims = tuple(step[:2] for step in day[0])
                new_claims = tuple(map(stretched_note, claims))
                for function in (surely_lying, convicting, heights):
                    self.assertEqual(function(office, the_board, claims), function(wide, new_board, new_claims))
                bound = heights(wide, new_board, new_claims)
                self.assertTrue(is_heights(wide, new_board, new_claims, 0, bound))
                self.assertEqual(mapped(least_lies(office, the_board, claims),
                                        lambda pair: (pair[0], stretched_day(pair[1]))),
                                 least_lies(wide, new_board, new_claims))
                if many:
                    self.assertEqual(left(office, the_board, 0, claims[0]), left(wide, new_board, 0, new_claims[0]))
                self.assertEqual(read_day(wide, day_text(told)), told)
                if is_true(office, day):
                    self.assertEqual(day_at(wide, many, day_number(office, day)), told)
                self.check_live(office, wide, day, lot)

    def check_live(self, office, wide, day, lot):
        live, other = Live(office), Live(wide)
        for step in day[0]:
            live.step(*step)
            other.step(*stretched_step(step))
        self.assertEqual((live.wrong(), live.sees_now(lot)), (other.wrong(), other.sees_now(lot)))
        self.assertEqual(list(map(stretched_step, live.ways_on())), other.ways_on())
        self.assertEqual(other.closed(day[1] + 3), stretched_day(day))

    def test_facts_and_worths(self):
        for office, wide in self.pairs():
            slips, answers, marks = wide.sizes
            many = slips * answers * marks
            fact = (((0,) * (many - 1) + (1,), (1,) * many), (1,))
            self.assertTrue(is_fact(wide, fact))
            last_step = (slips - 1, answers - 1, marks - 1)
            self.assertIs(holds(wide, fact, ((last_step,), 0)), True)
            self.assertIs(holds(wide, fact, (((0, 0, 0),), 0)), False)
            for day in true_days(wide, 2)[:2]:
                self.assertEqual(known(wide, fact, day, (0, 1)), ("no", day))
            if is_sure(office):
                worths = tuple(range(office.sizes[1]))
                new_worths = tuple((answer - 1) // 2 if answer % 2 else 50 for answer in range(answers - 2)) + (7, 8)
                one = most_kept(office, worths, 1, 2)
                self.assertEqual(mapped(one, lambda pair: (pair[0], stretched_day(pair[1]))),
                                 most_kept(wide, new_worths, 1, 2))
                self.assertEqual(served(wide, (0, 1)), stretched_day(served(office, (0, 1))))
                self.assertEqual(keeps(wide, new_worths, served(wide, (0, 1))), 0)

    def test_what_comes_of_offices(self):
        for office, wide in self.pairs():
            found = merged(office)
            rows = tuple(tuple(stretched_step(move[:3]) + move[3:] for move in row) for row in found.moves)
            lasts = tuple(tuple(mark + 3 for mark in row) for row in found.closings)
            self.assertTrue(merged(wide) == wide_office(wide.sizes, rows, lasts))
            colours = (0, 0, 0) + tuple(range(wide.sizes[2] - 3))
            self.assertEqual(coloured(wide, colours).sizes[2], wide.sizes[2] - 3)
            self.assertEqual(least_k(coloured(wide, colours)), least_k(office))
            chain = chained(wide_office((2, wide.sizes[0], 1), (((0, 0, 0, 0),),), ((0,),)), wide)
            self.assertEqual(chain.sizes, (2, wide.sizes[0] * wide.sizes[1], wide.sizes[2]))
            self.assertTrue(all(is_true(chain, day) for day in true_days(chain, 2)))

            def clerk(slips, closing):
                return 3 if closing else (1, 3)

            self.assertEqual(led(wide, clerk, (0, 0)), (((0, 1, 3), (0, 1, 3)), 3))
            self.assertEqual(outcome(caught, wide, clerk, 1) is None,
                             outcome(caught, office, lambda slips, closing: 0 if closing else (0, 0), 1) is None)
        small = [pair for pair in self.pairs() if pair[0].sizes[2] == 1]
        for office, wide in small[:4]:
            # Marks that nobody hangs up may be taken for one another.
            self.assertEqual(len(good_colours(wide, 1)), 52 if least_k(office) == 1 else 0)


class EqualTest(unittest.TestCase):
    def test_equal_offices_are_told_alike(self):
        shop = Shop(Office(LOAF.sizes, LOAF.moves[:1] + ((LOAF.moves[1][0],),), LOAF.closings))
        shop.put(1, 1, 1, 0, 1)
        equal = [Office(LOAF.sizes, LOAF.moves, LOAF.closings), read_office(office_text(LOAF)), merged(LOAF),
                 coloured(LOAF, (0,)), shop.office(), wide_office(LOAF.sizes, LOAF.moves, LOAF.closings)]
        day = (((1, 0, 0), (1, 0, 0), (0, 1, 0)), 0)
        for other in equal:
            self.assertTrue(other == LOAF)
            for function, arguments in ((tale, (day, (0,))), (tale, (day, (1, 2))), (some_true, (40,)), (crossing, (1,)),
                                        (crossing, (7,)), (round_of, ()), (learning, ()), (forging, ()),
                                        (indiscreet, ()), (paper, (1,)), (rule_text, ()), (office_text, ()),
                                        (known, ((((0,) * 4,), ()), day, (0,))), (reader, ()), (seeing, (day,)),
                                        (heights, (((0, 0), 0), ((1, 0), (1, 0))))):
                self.assertEqual(function(other, *arguments), function(LOAF, *arguments), function)
        for office in OFFICES:
            other = Office(office.sizes, office.moves, office.closings)
            for function, arguments in ((some_true, (6,)), (crossing, (1,)), (crossing, (2,)), (round_of, ()),
                                        (paper, (2,)), (learning, ()), (forging, ()), (indiscreet, ()),
                                        (office_text, ()), (most_proofs, (2,))):
                self.assertEqual(function(office, *arguments), function(other, *arguments))


if __name__ == "__main__":
    unittest.main()
