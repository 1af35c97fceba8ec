"""15.1 to 15.3: webs of lots and shapes, the false days that they leave unseen, and when none is left."""

import random
import unittest
from itertools import combinations, product

from falsedays.errors import NoNumber, NoShape, NoTree, NoWeb, TooMany
from falsedays.keeping import unseen_days
from falsedays.offices import Office, true_days
from falsedays.tales import seeing, unseen
from falsedays.webs import exchanges, is_tree, is_web, shape_false, web_false
from tests.helpers import (FORKED, HUNG_UP, JUST_2000, JUST_2001, LOAF, NEVER, NOBODY, SIXTY_ONE, all_days,
                           days_by_board, echo_office, is_whole, nested, odd_things, office_of_days, slow_board,
                           slow_true_days, small_offices, twisted, two_ends_office)

NAMED = [LOAF, HUNG_UP, FORKED, NEVER, NOBODY, echo_office(2), two_ends_office(1)]
SHAPES = [(0,) + rest for size in range(4) for rest in combinations(range(1, 6), size)]
NO_SHAPES = [(), (1,), (0, 0), (0, 6), (0, 2, 1), (0, 1, 2, 3, 4), (0, -1), (-1, 0), [0], [0, 1], (0, True), (False,),
             (False, 1), ("0",), (0, None), ((0,),), 0, {0: 1}, "0", (0, (1,)), (1, 2), (0, 1, 1), (0, 10 ** 39)]
# All 2048 days of five people with these sizes.
FIVE = all_days(HUNG_UP, 5)


def all_lots(many):
    return [lot for size in range(many + 1) for lot in combinations(range(many), size)]


def slow_is_web(many, thing):
    return isinstance(thing, tuple) and all(
        isinstance(lot, tuple) and all(is_whole(place) and 0 <= place < many for place in lot)
        and list(lot) == sorted(set(lot)) for lot in thing)


def slow_is_tree(many, thing):
    if not slow_is_web(many, thing):
        return False
    for at in range(1, len(thing)):
        shared = {place for place in thing[at] for elder in thing[:at] if place in elder}
        if not any(shared <= set(elder) for elder in thing[:at]):
            return False
    return True


def slow_unseen_by(days, true, lots):
    """Of all days of so many people the false ones that no lot sees."""
    boards = {day: (tuple(step[2] for step in day[0]), day[1]) for day in days}
    rows = [{(boards[day], tuple(day[0][place] for place in lot)) for day in true} for lot in lots]
    there = set(true)
    return [day for day in days if day not in there and all(
        (boards[day], tuple(day[0][place] for place in lot)) in row for lot, row in zip(lots, rows))]


def slow_web_false(office, many, web):
    found = slow_unseen_by(all_days(office, many), slow_true_days(office, many), web)
    return found[0] if found else None


def slow_exchanges(true, web):
    """By all pairs of true days of one board."""
    for at in range(1, len(web)):
        elder = sorted({place for lot in web[:at] for place in lot})
        shared = [place for place in web[at] if place in elder]
        for days in days_by_board(true).values():
            there = {tuple(day[0][place] for place in elder) + tuple(day[0][place] for place in web[at])
                     for day in days}
            for one, other in product(days, days):
                if all(one[0][place] == other[0][place] for place in shared):
                    if (tuple(one[0][place] for place in elder)
                            + tuple(other[0][place] for place in web[at])) not in there:
                        return False
    return True


def random_lot(rng, many):
    return tuple(sorted(rng.sample(range(many), rng.randint(0, many))))


def random_web(rng, many):
    return tuple(random_lot(rng, many) for _ in range(rng.randint(0, 4)))


def random_tree(rng, many):
    """A web that is a tree and has each place."""
    left = rng.sample(range(many), many)
    web = []
    while left:
        fresh = [left.pop() for _ in range(rng.randint(1, len(left)))]
        elder = rng.choice(web) if web else ()
        web.append(tuple(sorted(fresh + rng.sample(elder, rng.randint(0, len(elder))))))
        if rng.random() < 0.3:
            elder = rng.choice(web)
            web.append(tuple(sorted(rng.sample(elder, rng.randint(0, len(elder))))))
    return tuple(web)


def shape_lots(many, shape):
    lots = [tuple(place + begin for place in shape) for begin in range(6)]
    return [lot for lot in lots if lot[-1] < many]


def people(office, most_days=1100):
    """The numbers of people for which all days of an office can be gone through."""
    slips, answers, marks = office.sizes
    return [many for many in range(1, 7) if (slips * answers * marks) ** many * marks <= most_days]


class WebTest(unittest.TestCase):
    def test_own_words(self):
        for web in ((), ((),), ((0,),), ((0, 1), (1, 2)), ((0, 2), (0, 2), (1,), ()), ((0, 1, 2),)):
            self.assertIs(is_web(3, web), True)
            self.assertIs(is_tree(3, web), True)
        for web in (((3,),), ((0, 0),), ((1, 0),), ((-1,),), [(0,)], ([0],), ((True,),), ((0,), None), (0,), None):
            self.assertIs(is_web(3, web), False)
            self.assertIs(is_tree(3, web), False)
        self.assertIs(is_web(4, ((3,),)), True)
        self.assertIs(is_web(6, ((5,), (0, 1, 2, 3, 4, 5))), True)
        self.assertIs(is_web(6, ((6,),)), False)

    def test_trees(self):
        # A lot that shares places with two elder ones that stand in no single one.
        self.assertIs(is_tree(3, ((0, 1), (1, 2), (0, 2))), False)
        self.assertIs(is_tree(3, ((0, 1), (0, 2), (1, 2))), False)
        self.assertIs(is_tree(3, ((0,), (1,), (0, 1))), False)
        self.assertIs(is_tree(3, ((0, 1), (0,), (1,))), True)
        self.assertIs(is_tree(3, ((0, 1, 2), (1, 2), (0, 2))), True)
        self.assertIs(is_tree(4, ((0, 1), (1, 2), (2, 3))), True)
        self.assertIs(is_tree(4, ((0, 1), (2, 3), (1, 2))), False)
        self.assertIs(is_tree(4, ((0, 1), (2, 3))), True)
        self.assertIs(is_tree(4, ((0, 1), (2,), (1, 3), (0, 3))), False)
        self.assertIs(is_tree(4, ((), (0, 1), ())), True)
        self.assertIs(is_tree(4, ((0,), (1, 2), (0, 1), (0, 1))), False)

    def test_all_small_webs(self):
        both = {True: 0, False: 0}
        for many in (1, 2, 3):
            for size in range(4):
                for web in product(all_lots(many), repeat=size):
                    self.assertIs(is_web(many, web), True)
                    right = slow_is_tree(many, web)
                    self.assertIs(is_tree(many, web), right)
                    both[right] += 1
        self.assertGreater(min(both.values()), 40)

    def test_random_webs(self):
        rng = random.Random(321)
        both = {True: 0, False: 0}
        for _ in range(600):
            many = rng.randint(1, 6)
            web = tuple(random_lot(rng, many) for _ in range(rng.randint(0, 7)))
            self.assertIs(is_web(many, web), True)
            self.assertIs(is_tree(many, web), slow_is_tree(many, web))
            both[is_tree(many, web)] += 1
            web = random_tree(rng, many)
            self.assertIs(is_tree(many, web), True)
            self.assertTrue(slow_is_tree(many, web))
            for other in range(1, many):
                self.assertIs(is_web(other, web), slow_is_web(other, web))
                self.assertIs(is_tree(other, web), slow_is_web(other, web))
        self.assertGreater(min(both.values()), 50)

    def test_things(self):
        rows = (tuple(((0,),) * 3000), tuple(((0, 1), (2,)) * 1000), ((),) * 9999, tuple(range(6)) * 1000)
        for thing in odd_things() + [nested(0, deep) for deep in range(41)] + [((0,), thing) for thing in odd_things()]:
            for many in range(1, 7):
                self.assertIs(is_web(many, thing), slow_is_web(many, thing))
                self.assertIs(is_tree(many, thing), slow_is_web(many, thing))
        for thing in odd_things():
            self.assertIs(is_web(3, ((0, thing),)), False)
            self.assertIs(is_tree(3, ((thing,), (0,))), False)
        for many in (1, 3, 6):
            for thing in rows + tuple(twisted(((0, 1), (1, 2), ()))):
                self.assertIs(is_web(many, thing), slow_is_web(many, thing))
                if len(thing if isinstance(thing, tuple) else ()) < 9:
                    self.assertIs(is_tree(many, thing), slow_is_tree(many, thing))
        self.assertIs(is_tree(3, rows[0]), True)
        self.assertIs(is_tree(3, rows[1]), True)

    def test_no_numbers(self):
        for thing in odd_things() + [0, 7, "1", (1,), [1], 1000]:
            for call in (lambda: is_web(thing, ()), lambda: is_web(thing, thing), lambda: is_tree(thing, ()),
                         lambda: is_tree(thing, None), lambda: web_false(LOAF, thing, ()),
                         lambda: web_false(LOAF, thing, thing), lambda: exchanges(LOAF, thing, ((0,),)),
                         lambda: exchanges(LOAF, thing, thing), lambda: shape_false(LOAF, thing, (0,)),
                         lambda: shape_false(LOAF, thing, thing)):
                self.assertRaises(NoNumber, call)


class WebFalseTest(unittest.TestCase):
    def test_own_words(self):
        self.assertEqual(web_false(LOAF, 2, ((0,), (1,))), (((0, 1, 0), (1, 1, 0)), 0))
        self.assertIsNone(web_false(LOAF, 2, ((0, 1),)))
        self.assertIsNone(web_false(LOAF, 2, ((0,), (1,), (0, 1))))
        self.assertEqual(web_false(LOAF, 2, ()), (((0, 0, 0), (0, 0, 0)), 0))
        self.assertEqual(web_false(LOAF, 2, ((),)), (((0, 0, 0), (0, 0, 0)), 0))
        self.assertEqual(web_false(LOAF, 2, ((), (1,))), (((0, 0, 0), (0, 1, 0)), 0))
        self.assertEqual(web_false(LOAF, 3, ((0, 1), (1, 2))), (((0, 1, 0), (0, 1, 0), (1, 1, 0)), 0))
        self.assertEqual(web_false(HUNG_UP, 2, ()), (((0, 0, 0), (0, 0, 0)), 1))
        self.assertIsNone(web_false(HUNG_UP, 2, ((0,), (1,))))
        self.assertEqual(web_false(HUNG_UP, 2, ((1,),)), (((0, 0, 1), (0, 0, 0)), 0))

    def test_no_true_days(self):
        for many in (1, 2, 6):
            self.assertIsNone(web_false(NEVER, many, ((0,),)))
            self.assertIsNone(web_false(NEVER, many, ((),)))
            self.assertEqual(web_false(NEVER, many, ()), (((0, 0, 0),) * many, 0))
            self.assertEqual(web_false(NOBODY, many, ()), (((0, 0, 0),) * many, 0))
            self.assertIsNone(web_false(NOBODY, many, ((), ())))
        self.assertIsNone(web_false(Office((1, 1, 1), (((0, 0, 0, 0),),), ((0,),)), 6, ()))

    def test_against_all_days(self):
        rng = random.Random(322)
        found = {True: 0, False: 0}
        for office in NAMED + small_offices(90, 323):
            for many in people(office):
                days, true = all_days(office, many), slow_true_days(office, many)
                webs = [(), ((),), (tuple(range(many)),)] + [random_web(rng, many) for _ in range(4)]
                for web in webs:
                    right = (slow_unseen_by(days, true, web) + [None])[0]
                    self.assertEqual(web_false(office, many, web), right, (office.moves, many, web))
                    found[right is None] += 1
                    # A lot twice, or another order, changes nothing.
                    self.assertEqual(web_false(office, many, web[::-1] + web[:2]), right)
        self.assertGreater(min(found.values()), 200)

    def test_more_people(self):
        for many, webs in ((4, [((0, 1), (2, 3)), ((0, 1), (1, 2), (2, 3)), ((0, 3), (1, 2)), ((0, 1, 2),)]),
                           (5, [((0, 2, 4), (1, 3)), ((0, 1), (1, 2), (3, 4)), tuple(combinations(range(5), 2))])):
            for office in (LOAF, echo_office(1), echo_office(2), two_ends_office(2)):
                for web in webs:
                    self.assertEqual(web_false(office, many, web), slow_web_false(office, many, web))
        # Only all together see that nobody had the loaf.
        for size in (2, 5):
            self.assertEqual(web_false(LOAF, 6, tuple(combinations(range(6), size))),
                             (((0, 1, 0),) * 5 + ((1, 1, 0),), 0))
        self.assertIsNone(web_false(LOAF, 6, (tuple(range(6)),)))

    def test_by_seeing(self):
        # A false day is unseen by all lots of a web if none of them has all places of a lot that sees it.
        rng = random.Random(324)
        for office in [LOAF, FORKED] + small_offices(25, 325):
            for many in people(office, 300):
                days = all_days(office, many)
                true = slow_true_days(office, many)
                for _ in range(2):
                    web = random_web(rng, many)
                    left = [day for day in days if day not in true and not any(
                        set(small) <= set(lot) for small in seeing(office, day) for lot in web)]
                    self.assertEqual(web_false(office, many, web), left[0] if left else None)

    def test_just_2000_true_days(self):
        office = office_of_days((2, 1, 2), FIVE[:2000])
        full = (tuple(range(5)),)
        self.assertEqual(len(true_days(office, 5)), 2000)
        self.assertIsNone(web_false(office, 5, full))
        self.assertEqual(web_false(office, 5, ()), FIVE[2000])
        self.assertIs(exchanges(office, 5, full), True)
        self.assertEqual(web_false(office, 4, ()), (((0, 0, 0),) * 4, 0))
        for days in (FIVE[:2001], FIVE):
            office = office_of_days((2, 1, 2), days)
            for call in (lambda: web_false(office, 5, full), lambda: web_false(office, 5, ()),
                         lambda: exchanges(office, 5, full), lambda: shape_false(office, 5, (0,)),
                         lambda: shape_false(office, 5, (0, 5))):
                with self.assertRaises(TooMany) as caught:
                    call()
                self.assertEqual(caught.exception.most, 2000)
            self.assertRaises(NoWeb, web_false, office, 5, ((5,),))
            self.assertRaises(NoWeb, exchanges, office, 5, ((5,),))
            self.assertRaises(NoTree, exchanges, office, 5, ())
            self.assertRaises(NoShape, shape_false, office, 5, ())
            self.assertIsNone(shape_false(office, 4, (0,)))

    def test_just_2000_false_days(self):
        self.assertEqual(web_false(office_of_days((2, 1, 2), FIVE[:48]), 5, ()), FIVE[48])
        self.assertEqual(web_false(office_of_days((2, 1, 2), FIVE[2000:]), 5, ()), FIVE[0])
        for office in (office_of_days((2, 1, 2), FIVE[:47]), office_of_days((2, 1, 2), FIVE[2001:])):
            with self.assertRaises(TooMany) as caught:
                web_false(office, 5, ())
            self.assertEqual(caught.exception.most, 2000)
            self.assertIsNone(web_false(office, 5, (tuple(range(5)),)))
        pairs = tuple((place, place + 1) for place in range(5))
        right = [day for day in unseen_days(JUST_2000, 3, 6) if unseen(JUST_2000, day, 3)]
        self.assertEqual(web_false(JUST_2000, 6, tuple((place, place + 1, place + 2) for place in range(4))), right[0])
        self.assertTrue(unseen(JUST_2000, web_false(JUST_2000, 6, pairs), 2))
        self.assertEqual(web_false(JUST_2000, 6, pairs), shape_false(JUST_2000, 6, (0, 1)))
        for call in (lambda: web_false(JUST_2001, 6, pairs), lambda: shape_false(JUST_2001, 6, (0, 1))):
            with self.assertRaises(TooMany) as caught:
                call()
            self.assertEqual(caught.exception.most, 2000)
        # Trees are told of with so many false days, too.
        self.assertIs(exchanges(JUST_2001, 6, pairs), False)

    def test_just_2000_of_both(self):
        days = [(((0, answer, 0),), 0) for answer in range(4001)]
        self.assertEqual(web_false(office_of_days((1, 4000, 1), days[:2000]), 1, ()), days[2000])
        self.assertRaises(TooMany, web_false, office_of_days((1, 4000, 1), days[:1999]), 1, ())
        self.assertRaises(TooMany, web_false, office_of_days((1, 4001, 1), days[:2000]), 1, ())
        self.assertRaises(TooMany, web_false, office_of_days((1, 4001, 1), days[:2001]), 1, ())
        self.assertEqual(web_false(office_of_days((1, 4000, 1), days[1000:3000]), 1, ((),)), days[0])

    def test_begins_that_lead_nowhere(self):
        # A note that is not (0, 0) at an even place has tales with last mark 0 alone, at an odd place with 1 alone:
        # so of all 9 ** 6 rows of notes only a few have tales for all.
        notes = [(slip, answer) for slip in range(3) for answer in range(3)]
        true = []
        for place in range(6):
            for note in notes[1:]:
                steps = [(0, 0, 0)] * 6
                steps[place] = note + (0,)
                true.append((tuple(steps), place % 2))
        office = office_of_days((3, 3, 2), true)
        self.assertEqual(true_days(office, 6), sorted(true))
        alone = tuple((place,) for place in range(6))
        self.assertEqual(web_false(office, 6, alone), (((0, 0, 0),) * 6, 0))
        self.assertEqual(shape_false(office, 6, (0,)), (((0, 0, 0),) * 6, 0))
        self.assertEqual(len(unseen_days(office, 1, 6)), 2 * 9 ** 3)

    def test_boards_that_lead_nowhere(self):
        # Where the first note is not (0, 0) no tale of the first one has a mark 1.
        notes = [(slip, answer) for slip in range(3) for answer in range(3)]
        true = [((note + (0,),) + ((0, 0, 0),) * 5, 0) for note in notes[1:]]
        true += [(((0, 0, 0), one + (1,), two + (0,), three + (0,), (0, 0, 0), (0, 0, 0)), 0)
                 for one, two, three in product(notes, repeat=3)]
        office = office_of_days((3, 3, 2), true)
        self.assertIsNone(web_false(office, 6, ((0,), (1, 2, 3, 4, 5))))
        self.assertIs(exchanges(office, 6, ((0,), (1, 2, 3, 4, 5))), True)
        self.assertEqual(web_false(office, 6, ((0,), (1,), (2, 3, 4, 5))), None)
        self.assertRaises(TooMany, web_false, office, 6, ((), (1, 2, 3, 4, 5)))

    def test_lots_that_are_at_odds(self):
        # By neighbours the notes of the first, the fourth, the fifth and the sixth one are alike: more than 2000
        # rows of four notes look right so far, but for most of them the sixth one can have no note.
        notes = [(slip, answer, 0) for slip in range(4) for answer in range(2)]
        ring = tuple((place, place + 1) for place in range(5)) + ((0, 5),)
        true = [((one, two, three, one, one, one), 0) for one, two, three in product(notes, repeat=3)]
        office = office_of_days((4, 2, 1), true)
        self.assertIsNone(web_false(office, 6, ring))
        self.assertRaises(TooMany, web_false, office, 6, ring[:5])
        few = [day for day in true if day[0][0] in notes[:4] and day[0][1] in notes[:4] and day[0][2] in notes[:4]]
        self.assertEqual(web_false(office_of_days((4, 2, 1), few), 6, ring[:5]), ((notes[0],) * 3 + (notes[1],) * 3, 0))
        true = [((one, two, three, four, one, one), 0) for one, two, three, four in product(notes[:6], repeat=4)]
        self.assertIsNone(web_false(office_of_days((4, 2, 1), true), 6, ring))
        self.assertRaises(TooMany, web_false, office_of_days((4, 2, 1), true), 6, ring[:5])

    def test_too_many_on_two_boards(self):
        # 12 ** 3 days of each board are unseen by each one alone.
        notes = [(slip, answer, 0) for slip in range(4) for answer in range(3)]
        true = {(tuple(note if at == place else notes[0] for at in range(3)), last)
                for place in range(3) for note in notes for last in range(2)}
        alone = ((0,), (1,), (2,))
        one_board = [day for day in true if day[1] == 1]
        right = ((notes[0], notes[1], notes[1]), 1)
        self.assertEqual(web_false(office_of_days((4, 3, 2), one_board), 3, alone), right)
        self.assertEqual(shape_false(office_of_days((4, 3, 2), one_board), 3, (0,)), right)
        for call in (lambda: web_false(office_of_days((4, 3, 2), true), 3, alone),
                     lambda: shape_false(office_of_days((4, 3, 2), true), 3, (0,))):
            self.assertRaises(TooMany, call)

    def test_wrong_webs(self):
        for thing in odd_things() + [[()], [(0,)], ([0],), ((2,),), ((0, 0),), ((1, 0),), ((True,),), (0,), "()", 0]:
            if not slow_is_web(2, thing):
                self.assertRaises(NoWeb, web_false, LOAF, 2, thing)
                self.assertRaises(NoWeb, web_false, JUST_2001, 2, thing)
                self.assertRaises(NoWeb, exchanges, LOAF, 2, thing)
        for thing in twisted(((0, 1), (1, 2))):
            right = slow_web_false(LOAF, 3, thing) if slow_is_web(3, thing) else NoWeb
            if right is NoWeb:
                self.assertRaises(NoWeb, web_false, LOAF, 3, thing)
                self.assertRaises(NoWeb, exchanges, LOAF, 3, thing)
            else:
                self.assertEqual(web_false(LOAF, 3, thing), right)

    def test_no_bound_of_the_reader(self):
        self.assertIsNone(web_false(SIXTY_ONE, 1, ((0,),)))
        self.assertIsNone(web_false(SIXTY_ONE, 2, ((0,),)))
        self.assertIs(exchanges(SIXTY_ONE, 1, ((0,),)), True)
        self.assertIsNone(shape_false(SIXTY_ONE, 1, (0,)))


class ExchangesTest(unittest.TestCase):
    def test_own_words(self):
        self.assertIs(exchanges(LOAF, 2, ((0,), (1,))), False)
        self.assertIs(exchanges(LOAF, 2, ((0, 1),)), True)
        self.assertIs(exchanges(LOAF, 3, ((0, 1), (1, 2))), False)
        self.assertIs(exchanges(HUNG_UP, 3, ((0,), (1,), (2,))), True)
        self.assertIs(exchanges(echo_office(1), 3, ((0, 1), (1, 2))), True)
        self.assertIs(exchanges(echo_office(1), 3, ((1, 2), (0, 1))), True)
        self.assertIs(exchanges(echo_office(1), 3, ((0, 1), (2,))), False)
        self.assertIs(exchanges(echo_office(1), 3, ((0, 2), (1,))), False)
        self.assertIs(exchanges(NEVER, 2, ((0,), (1,))), True)

    def test_the_sixth_fact(self):
        rng = random.Random(326)
        both = {True: 0, False: 0}
        for office in NAMED + small_offices(150, 327):
            for many in people(office):
                true = slow_true_days(office, many)
                if len(true) < 90:
                    for _ in range(4):
                        web = random_tree(rng, many)
                        right = slow_exchanges(true, web)
                        self.assertIs(exchanges(office, many, web), right)
                        self.assertEqual(web_false(office, many, web) is None, right)
                        both[right] += 1
        self.assertGreater(min(both.values()), 150)

    def test_all_small_trees(self):
        for office in [LOAF, FORKED, echo_office(1)] + small_offices(6, 328):
            for many in (1, 2, 3):
                true = slow_true_days(office, many)
                for size in range(4):
                    for web in product(all_lots(many), repeat=size):
                        whole = {place for lot in web for place in lot} == set(range(many))
                        if slow_is_tree(many, web) and whole:
                            right = exchanges(office, many, web)
                            self.assertEqual(web_false(office, many, web) is None, right)
                            if len(true) < 20:
                                self.assertIs(right, slow_exchanges(true, web))
                        else:
                            self.assertRaises(NoTree, exchanges, office, many, web)

    def test_no_trees(self):
        for many, web in ((3, ((0, 1), (1, 2), (0, 2))), (2, ()), (2, ((0,),)), (2, ((),)), (1, ((), ())),
                          (3, ((0, 1), (1,))), (6, (tuple(range(5)),)), (3, ((0,), (1,), (2,), (0, 1)))):
            for office in (LOAF, HUNG_UP, SIXTY_ONE, JUST_2001):
                self.assertRaises(NoTree, exchanges, office, many, web)
                self.assertIs(is_web(many, web), True)

    def test_long_webs(self):
        self.assertIs(exchanges(LOAF, 2, ((0, 1),) * 2000 + ((0,), ()) * 500), True)
        self.assertIs(exchanges(LOAF, 2, ((0,),) + ((),) * 3000 + ((1,),)), False)
        self.assertEqual(web_false(LOAF, 2, ((0,), (1,), ()) * 1500), (((0, 1, 0), (1, 1, 0)), 0))


class ShapeTest(unittest.TestCase):
    def test_own_words(self):
        self.assertEqual(shape_false(LOAF, 2, (0,)), (((0, 1, 0), (1, 1, 0)), 0))
        self.assertIsNone(shape_false(LOAF, 2, (0, 1)))
        self.assertEqual(shape_false(LOAF, 3, (0, 1)), (((0, 1, 0), (0, 1, 0), (1, 1, 0)), 0))
        self.assertEqual(shape_false(LOAF, 3, (0, 2)), (((0, 1, 0), (0, 0, 0), (0, 1, 0)), 0))
        self.assertIsNone(shape_false(LOAF, 1, (0,)))

    def test_no_lot_for_so_few(self):
        for shape in SHAPES:
            for many in range(1, shape[-1] + 1):
                for office in (LOAF, NEVER, FORKED if many < 3 else NOBODY):
                    self.assertIsNone(shape_false(office, many, shape))
        # So also where more than 2000 days are false.
        for many in range(1, 6):
            self.assertIsNone(shape_false(Office((4, 4, 1), (((0, 0, 0, 0),),), ((0,),)), many, (0, 5)))

    def test_against_all_days(self):
        found = {True: 0, False: 0}
        rng = random.Random(329)
        for office in NAMED + small_offices(60, 330):
            for many in people(office):
                days, true = all_days(office, many), slow_true_days(office, many)
                for shape in rng.sample(SHAPES, 3) + [(0, 2), (0, 1)]:
                    lots = shape_lots(many, shape)
                    right = (slow_unseen_by(days, true, lots) + [None])[0] if lots else None
                    self.assertEqual(shape_false(office, many, shape), right)
                    if lots:
                        self.assertEqual(web_false(office, many, tuple(lots)), right)
                        found[right is None] += 1
        self.assertGreater(min(found.values()), 60)

    def test_all_shapes(self):
        for many in (4, 5, 6):
            for shape in SHAPES:
                lots = shape_lots(many, shape)
                if lots and (many < 6 or len(shape) > 2):
                    right = slow_web_false(LOAF, many, lots) if many < 6 else web_false(LOAF, many, tuple(lots))
                    self.assertEqual(shape_false(LOAF, many, shape), right)

    def test_like_neighbours(self):
        for office in NAMED + small_offices(60, 331):
            for many in people(office):
                true = slow_true_days(office, many)
                for k in (1, 2, 3, 4):
                    left = [day for day in unseen_days(office, k, many) if day not in true]
                    self.assertEqual(shape_false(office, many, tuple(range(k))), left[0] if left else None)
                    if k > many:
                        self.assertEqual(left, [])

    def test_wrong_shapes(self):
        for thing in odd_things() + NO_SHAPES:
            if thing != (0,):
                for many in (1, 3, 6):
                    self.assertRaises(NoShape, shape_false, LOAF, many, thing)
        for thing in odd_things():
            self.assertRaises(NoShape, shape_false, LOAF, 3, (0, thing))
        for thing in twisted((0, 2, 3)):
            if thing in SHAPES and isinstance(thing, tuple) and all(type(part) is int for part in thing):
                shape_false(LOAF, 4, thing)
            else:
                self.assertRaises(NoShape, shape_false, LOAF, 4, thing)


class DaysTest(unittest.TestCase):
    def test_what_is_found_is_false_and_unseen(self):
        rng = random.Random(332)
        for office in small_offices(80, 333):
            for many in people(office):
                web = random_web(rng, many)
                day = web_false(office, many, web)
                if day is not None:
                    true = slow_true_days(office, many)
                    self.assertNotIn(day, true)
                    for lot in web:
                        self.assertTrue(any(slow_board(other) == slow_board(day) and all(
                            other[0][place] == day[0][place] for place in lot) for other in true))


if __name__ == "__main__":
    unittest.main()
