"""17.1: a shop in which an office is changed, and how what was done to it is put back."""

import random
import unittest

from falsedays.chains import chained
from falsedays.errors import (BadOffice, FalseError, NoMark, NoMove, NoStanding, NoStep, NothingDone, NoSteps,
                              TooMany)
from falsedays.neighbours import least_k
from falsedays.offices import Office, is_true
from falsedays.shop import Shop
from tests.helpers import (FORKED, HUNG_UP, LOAF, NEVER, NOBODY, SIXTY, SIXTY_ONE, echo_office, is_whole, odd_things,
                           outcome, slow_is_mark, slow_is_step, small_offices, wide_office)

METHODS = ["put", "strike", "add", "shuts", "shuts_not", "office", "least", "back", "depth", "copy", "trying"]
TWENTY = Office((2, 2, 1), (((0, 0, 0, 19),),) + ((),) * 19, ((),) * 19 + ((0,),))
# Five answers, or 21 standings, were never constructed, only returned.
WIDE = wide_office((2, 5, 1), (((0, 4, 0, 0), (1, 0, 0, 0)),), ((0,),))
LONG = wide_office((2, 2, 1), TWENTY.moves + ((),), TWENTY.closings + ((),))


def parts_of(office):
    return office.sizes, office.moves, office.closings


class SlowShop:
    """A shop by the words of the document; every change is a new list of parts."""

    def __init__(self, office):
        self.all = [parts_of(office)]

    def standing(self, thing):
        if not is_whole(thing) or not 0 <= thing < len(self.all[-1][1]):
            raise NoStanding()

    def mark(self, thing):
        if not is_whole(thing) or not 0 <= thing < self.all[-1][0][2]:
            raise NoMark()

    def change(self, moves, closings):
        sizes = self.all[-1][0]
        Office(sizes, tuple(map(tuple, moves)), tuple(map(tuple, closings)))
        self.all.append((sizes, tuple(map(tuple, moves)), tuple(map(tuple, closings))))

    def lists(self):
        return [list(row) for row in self.all[-1][1]], [list(row) for row in self.all[-1][2]]

    def put(self, standing, slip, answer, mark, goal):
        self.standing(standing)
        if not slow_is_step(self, (slip, answer, mark)):
            raise NoStep()
        self.standing(goal)
        moves, closings = self.lists()
        moves[standing] = sorted(moves[standing] + [(slip, answer, mark, goal)])
        self.change(moves, closings)

    @property
    def sizes(self):
        return self.all[-1][0]

    def strike(self, standing, index):
        self.standing(standing)
        moves, closings = self.lists()
        if not is_whole(index) or not 0 <= index < len(moves[standing]):
            raise NoMove()
        del moves[standing][index]
        self.change(moves, closings)

    def add(self):
        moves, closings = self.lists()
        self.change(moves + [[]], closings + [[]])

    def shuts(self, standing, mark):
        self.standing(standing)
        self.mark(mark)
        moves, closings = self.lists()
        closings[standing] = sorted(closings[standing] + [mark])
        self.change(moves, closings)

    def shuts_not(self, standing, mark):
        self.standing(standing)
        self.mark(mark)
        moves, closings = self.lists()
        if mark not in closings[standing]:
            raise NoMark()
        closings[standing].remove(mark)
        self.change(moves, closings)

    def back(self):
        if len(self.all) == 1:
            raise NothingDone()
        self.all.pop()

    def depth(self):
        return len(self.all) - 1


def state_of(shop):
    return parts_of(shop.office()), shop.depth()


def random_call(rng, sizes, standings):
    """A method and its arguments, right or a little beyond."""
    def any_of(size):
        return rng.choice(list(range(size)) * 4 + [-1, size, None, True, "0"])

    name = rng.choice(["put", "put", "put", "put", "strike", "strike", "add", "shuts", "shuts_not", "back"])
    if name == "put":
        return name, (any_of(standings), any_of(sizes[0]), any_of(sizes[1]), any_of(sizes[2]), any_of(standings))
    if name == "strike":
        return name, (any_of(standings), any_of(3))
    if name in ("shuts", "shuts_not"):
        return name, (any_of(standings), any_of(sizes[2]))
    return name, ()


class ShopTest(unittest.TestCase):
    def test_own_words(self):
        shop = Shop(NOBODY)
        self.assertTrue(shop.office() == NOBODY)
        self.assertEqual((shop.depth(), shop.least()), (0, 1))
        self.assertIsNone(shop.put(0, 0, 0, 0, 0))
        self.assertTrue(shop.office() == Office((1, 1, 1), (((0, 0, 0, 0),),), ((0,),)))
        self.assertIsNone(shop.add())
        self.assertTrue(shop.office() == Office((1, 1, 1), (((0, 0, 0, 0),), ()), ((0,), ())))
        self.assertIsNone(shop.put(0, 0, 0, 0, 1))
        self.assertIsNone(shop.shuts(1, 0))
        self.assertIsNone(shop.shuts_not(0, 0))
        self.assertIsNone(shop.strike(0, 0))
        self.assertTrue(shop.office() == Office((1, 1, 1), (((0, 0, 0, 1),), ()), ((), (0,))))
        self.assertEqual(shop.depth(), 6)
        self.assertIsNone(shop.back())
        self.assertTrue(shop.office() == Office((1, 1, 1), (((0, 0, 0, 0), (0, 0, 0, 1)), ()), ((), (0,))))
        for left in reversed(range(5)):
            shop.back()
            self.assertEqual(shop.depth(), left)
        self.assertTrue(shop.office() == NOBODY)

    def test_the_loaf_is_built(self):
        shop = Shop(Office((2, 2, 1), ((),), ((),)))
        for call in ((shop.put, 0, 1, 0, 0, 0), (shop.put, 0, 0, 1, 0, 0), (shop.shuts, 0, 0)):
            call[0](*call[1:])
        self.assertEqual(shop.least(), 1)
        shop.add()
        shop.put(0, 1, 0, 0, 1)
        shop.strike(0, 1)
        shop.put(1, 1, 1, 0, 1)
        shop.put(1, 0, 1, 0, 1)
        shop.shuts(1, 0)
        self.assertTrue(shop.office() == LOAF)
        self.assertIsNone(shop.least())
        self.assertEqual(shop.depth(), 9)

    def test_places(self):
        # A move is put in ahead of all, between two, and behind all; marks likewise.
        row = ((1, 0, 1, 0), (1, 1, 0, 0))
        office = Office((3, 2, 4), (row,), ((1, 2),))
        for move, right in (((0, 1, 1, 0), ((0, 1, 1, 0),) + row), ((2, 0, 0, 0), row + ((2, 0, 0, 0),)),
                            ((1, 0, 2, 0), (row[0], (1, 0, 2, 0), row[1])), ((1, 0, 0, 0), ((1, 0, 0, 0),) + row)):
            shop = Shop(office)
            shop.put(0, *move)
            self.assertEqual(shop.office().moves, (right,))
        for mark, right in ((0, (0, 1, 2)), (3, (1, 2, 3))):
            shop = Shop(office)
            shop.shuts(0, mark)
            self.assertEqual(shop.office().closings, (right,))
        shop = Shop(Office((3, 2, 4), (row,), ((0, 3),)))
        shop.shuts(0, 2)
        self.assertEqual(shop.office().closings, ((0, 2, 3),))
        for index, right in ((0, row[1:]), (1, row[:1])):
            shop = Shop(office)
            shop.strike(0, index)
            self.assertEqual(shop.office().moves, (right,))
        for mark, right in ((1, (2,)), (2, (1,))):
            shop = Shop(office)
            shop.shuts_not(0, mark)
            self.assertEqual(shop.office().closings, (right,))
        shop = Shop(FORKED)
        shop.put(0, 0, 0, 0, 2)
        self.assertEqual(shop.office().moves[0], ((0, 0, 0, 0), (0, 0, 0, 1), (0, 0, 0, 2), (1, 0, 1, 2)))
        self.assertEqual(shop.office().moves[1:], FORKED.moves[1:])

    def test_told_offices_stay(self):
        shop = Shop(LOAF)
        told = [shop.office()]
        for call in ((shop.add,), (shop.put, 2, 0, 0, 0, 1), (shop.shuts, 2, 0), (shop.strike, 0, 1),
                     (shop.shuts_not, 0, 0), (shop.back,), (shop.back,), (shop.add,)):
            before = [parts_of(office) for office in told]
            call[0](*call[1:])
            self.assertEqual([parts_of(office) for office in told], before)
            told.append(shop.office())
        self.assertEqual(parts_of(LOAF), parts_of(told[0]))
        self.assertIsInstance(shop.office(), Office)
        self.assertTrue(shop.office() == shop.office())

    def test_twenty_standings(self):
        shop = Shop(TWENTY)
        with self.assertRaises(BadOffice) as caught:
            shop.add()
        self.assertEqual(caught.exception.part, "moves")
        self.assertEqual(state_of(shop), (parts_of(TWENTY), 0))
        shop.put(19, 1, 1, 0, 19)
        shop.shuts(18, 0)
        self.assertIs(is_true(shop.office(), (((0, 0, 0), (1, 1, 0)), 0)), True)
        self.assertRaises(NoStanding, shop.put, 20, 0, 0, 0, 0)
        self.assertRaises(NoStanding, shop.put, 0, 0, 0, 0, 20)
        shop = Shop(Office((1, 1, 1), ((),), ((),)))
        for many in range(2, 21):
            shop.add()
            self.assertEqual((len(shop.office().moves), len(shop.office().closings)), (many, many))
        self.assertRaises(BadOffice, shop.add)
        self.assertEqual(shop.depth(), 19)

    def test_returned_offices(self):
        # They may be held and asked, but what would come of a change cannot be constructed.
        for office, part in ((WIDE, "sizes"), (LONG, "moves"), (chained(LOAF, chained(LOAF, chained(LOAF, LOAF))),
                                                                 "sizes")):
            shop = Shop(office)
            self.assertEqual(state_of(shop), (parts_of(office), 0))
            self.assertEqual(shop.least(), least_k(office))
            for call in ((shop.put, 0, 1, 1, 0, 0), (shop.put, 0) + office.moves[0][0], (shop.strike, 0, 0),
                         (shop.add,), (shop.shuts, 0, 0),
                         (shop.shuts_not, len(office.moves) - 1 - (part == "moves"), 0)):
                with self.assertRaises(BadOffice) as caught:
                    call[0](*call[1:])
                self.assertEqual(caught.exception.part, part)
                self.assertEqual(state_of(shop), (parts_of(office), 0))
            self.assertRaises(NoMove, shop.strike, 0, len(office.moves[0]))
            self.assertRaises(NoStep, shop.put, 0, 0, office.sizes[1], 0, 0)
            self.assertRaises(NoStanding, shop.shuts, len(office.moves), 0)
            self.assertRaises(NothingDone, shop.back)
            self.assertEqual(shop.copy().office().sizes, office.sizes)
        shop = Shop(chained(LOAF, LOAF))
        shop.put(0, 0, 3, 0, 0)
        self.assertEqual(shop.office().sizes, (2, 4, 1))

    def test_least(self):
        for office in [LOAF, HUNG_UP, FORKED, NEVER, NOBODY, SIXTY, echo_office(3)] + small_offices(30, 411):
            self.assertEqual(Shop(office).least(), least_k(office))
        with self.assertRaises(TooMany) as caught:
            Shop(SIXTY_ONE).least()
        self.assertEqual(caught.exception.most, 60)
        # Nothing else is bounded by the reader.
        shop = Shop(SIXTY_ONE)
        shop.shuts_not(3, 0)
        shop.shuts(3, 0)
        shop.put(6, 3, 3, 3, 6)
        shop.strike(6, 0)
        self.assertRaises(TooMany, shop.least)
        self.assertTrue(shop.office() == SIXTY_ONE)
        shop.trying(Shop.back)
        self.assertEqual(shop.copy().depth(), 4)
        shop.back()
        self.assertEqual(shop.depth(), 3)
        # It turns to be told when there are fewer sets.
        shop = Shop(SIXTY_ONE)
        for _ in range(100):
            shop.strike(0, 0)
        self.assertEqual(shop.least(), least_k(shop.office()))

    def test_least_follows_the_changes(self):
        rng = random.Random(412)
        for office in small_offices(20, 413):
            shop = Shop(office)
            for _ in range(15):
                name, arguments = random_call(rng, office.sizes, len(shop.office().moves))
                outcome(getattr(shop, name), *arguments)
                self.assertEqual(shop.least(), least_k(shop.office()))

    def test_any_order(self):
        rng = random.Random(414)
        seen = {}
        for office in [LOAF, NOBODY, FORKED, TWENTY, NEVER] + small_offices(40, 415):
            shops = [(Shop(office), SlowShop(office))]
            for _ in range(80):
                shop, slow = rng.choice(shops)
                name, arguments = random_call(rng, office.sizes, len(slow.all[-1][1]))
                right = outcome(getattr(slow, name), *arguments)
                self.assertEqual(outcome(getattr(shop, name), *arguments), right, (name, arguments))
                seen[name, right] = seen.get((name, right), 0) + 1
                if rng.random() < 0.05 and len(shops) < 4:
                    other = SlowShop(office)
                    other.all = list(slow.all)
                    shops.append((shop.copy(), other))
                if rng.random() < 0.1:
                    shop.trying(lambda tried: [outcome(getattr(tried, name), *arguments) for _ in range(2)])
                for told, model in shops:
                    self.assertEqual(state_of(told), (model.all[-1], model.depth()))
        for name, error in (("put", NoStanding), ("put", NoStep), ("put", BadOffice), ("strike", NoStanding),
                            ("strike", NoMove), ("shuts", NoStanding), ("shuts", NoMark), ("shuts", BadOffice),
                            ("shuts_not", NoStanding), ("shuts_not", NoMark), ("back", NothingDone),
                            ("add", BadOffice)):
            self.assertTrue(any(key[0] == name and key[1] is not None and key[1][0] is error for key in seen))
        for name in METHODS[:5] + ["back"]:
            self.assertGreater(seen[name, None], 20)


class WrongTest(unittest.TestCase):
    def unchanged(self, shop, error, call, *arguments):
        before = state_of(shop)
        with self.assertRaises(error) as caught:
            call(*arguments)
        self.assertEqual(state_of(shop), before)
        return caught.exception

    def test_standings(self):
        shop = Shop(LOAF)
        shop.add()
        for thing in odd_things() + [3, "0", (0,), [0]]:
            for call, rest in ((shop.put, (0, 0, 0, 0)), (shop.put, (thing,) * 4), (shop.strike, (0,)),
                               (shop.strike, (thing,)), (shop.shuts, (0,)), (shop.shuts, (thing,)),
                               (shop.shuts_not, (0,)), (shop.shuts_not, (thing,))):
                self.unchanged(shop, NoStanding, call, thing, *rest)
            self.unchanged(shop, NoStanding, shop.put, 0, 0, 0, 0, thing)
            # The step ahead of the goal.
            self.unchanged(shop, NoStep, shop.put, 0, thing, 0, 0, thing)

    def test_steps(self):
        shop = Shop(FORKED)
        for thing in odd_things() + [2, "1", (1,)]:
            for at in range(3):
                step = [0, 0, 0]
                step[at] = thing
                self.unchanged(shop, NoStep, shop.put, 0, *step, 0)
                self.unchanged(shop, NoStep, shop.put, 2, *step, 3)
        shop.put(0, 1, 1, 1, 2)
        self.assertIn((1, 1, 1, 2), shop.office().moves[0])

    def test_moves(self):
        shop = Shop(FORKED)
        for thing in odd_things() + [3, "0", (0,)]:
            self.unchanged(shop, NoMove, shop.strike, 0, thing)
        for standing, many in enumerate((3, 2, 2)):
            self.unchanged(shop, NoMove, shop.strike, standing, many)
        self.unchanged(Shop(NOBODY), NoMove, Shop(NOBODY).strike, 0, 0)

    def test_marks(self):
        shop = Shop(FORKED)
        for thing in odd_things() + [2, "0", (0,)]:
            self.unchanged(shop, NoMark, shop.shuts, 0, thing)
            self.unchanged(shop, NoMark, shop.shuts, 2, thing)
            self.unchanged(shop, NoMark, shop.shuts_not, 0, thing)
        # A mark that is to go and is not there, and one that is there already.
        self.unchanged(shop, NoMark, shop.shuts_not, 0, 1)
        self.unchanged(shop, NoMark, shop.shuts_not, 1, 0)
        self.unchanged(Shop(NEVER), NoMark, Shop(NEVER).shuts_not, 0, 0)
        for standing, mark in ((0, 0), (1, 1), (2, 0), (2, 1)):
            error = self.unchanged(shop, BadOffice, shop.shuts, standing, mark)
            self.assertEqual(error.part, "closings")

    def test_moves_that_stand_there(self):
        for office in (LOAF, FORKED, SIXTY):
            shop = Shop(office)
            for standing, row in enumerate(office.moves):
                for move in row:
                    error = self.unchanged(shop, BadOffice, shop.put, standing, *move)
                    self.assertEqual(error.part, "moves")
        self.assertEqual(vars(self.unchanged(Shop(TWENTY), BadOffice, Shop(TWENTY).add)), {"part": "moves"})

    def test_kinds(self):
        shop = Shop(LOAF)
        for thing in odd_things() + [LOAF, None]:
            self.assertFalse(shop == thing)
            self.assertTrue(shop != thing)
        self.assertFalse(LOAF == shop)
        self.assertEqual(len(shop.office().moves), 2)
        for name in METHODS:
            self.assertIn(name, vars(Shop))
        self.assertRaises(NothingDone, shop.back)
        self.assertRaises(NothingDone, shop.copy().back)


class BackTest(unittest.TestCase):
    def setUp(self):
        self.shop = Shop(LOAF)
        self.shop.add()
        self.shop.put(2, 0, 0, 0, 1)
        self.before = state_of(self.shop)

    def test_copies(self):
        other = self.shop.copy()
        self.assertIsInstance(other, Shop)
        self.assertEqual(state_of(other), self.before)
        other.shuts(2, 0)
        self.shop.back()
        self.shop.back()
        self.assertRaises(NothingDone, self.shop.back)
        self.assertEqual((self.shop.depth(), other.depth()), (0, 3))
        other.back()
        self.assertEqual(state_of(other), self.before)
        other.back()
        other.back()
        self.assertTrue(other.office() == LOAF)
        self.assertRaises(NothingDone, other.back)

    def test_results(self):
        asked = []

        def action(shop):
            asked.append(shop)
            shop.strike(0, 1)
            return shop.least(), shop.depth()

        self.assertEqual(self.shop.trying(action), (1, 3))
        self.assertEqual(len(asked), 1)
        self.assertIs(asked[0], self.shop)
        self.assertEqual(state_of(self.shop), self.before)
        thing = object()
        self.assertIs(self.shop.trying(lambda shop: thing), thing)
        self.assertIs(self.shop.trying(lambda shop: shop), self.shop)
        self.assertIsNone(self.shop.trying(Shop.add))
        self.assertEqual(state_of(self.shop), self.before)

    def test_takes_back_what_was_done_ahead(self):
        def action(shop):
            shop.back()
            shop.back()
            self.assertRaises(NothingDone, shop.back)
            shop.shuts_not(0, 0)
            return shop.office()

        self.assertEqual(self.shop.trying(action).closings, ((), (0,)))
        self.assertEqual(state_of(self.shop), self.before)
        self.shop.back()
        self.assertEqual(self.shop.office().moves[2], ())
        self.shop.back()
        self.assertTrue(self.shop.office() == LOAF)

    def test_errors(self):
        class Own(Exception):
            pass

        def fails(error):
            def action(shop):
                shop.back()
                shop.back()
                shop.shuts_not(1, 0)
                raise error
            return action

        for error in (Own(), KeyError("a"), FalseError(), NoSteps(), KeyboardInterrupt(), StopIteration(),
                      ZeroDivisionError(), RecursionError()):
            with self.assertRaises(type(error)) as caught:
                self.shop.trying(fails(error))
            self.assertIs(caught.exception, error)
            self.assertEqual(state_of(self.shop), self.before)
        for call in (lambda shop: [shop.add(), shop.put(9, 0, 0, 0, 0)], lambda shop: [shop.add(), shop.shuts(0, 0)],
                     lambda shop: [shop.back(), shop.back(), shop.back()]):
            self.assertRaises(FalseError, self.shop.trying, call)
            self.assertEqual(state_of(self.shop), self.before)
        self.assertRaises(NothingDone, Shop(LOAF).trying, Shop.back)

    def test_tries_in_its_turn(self):
        def inner(shop):
            shop.back()
            shop.back()
            shop.back()
            shop.add()
            raise OSError()

        def outer(shop):
            shop.add()
            told = state_of(shop)
            self.assertRaises(OSError, shop.trying, inner)
            self.assertEqual(state_of(shop), told)
            self.assertEqual(shop.trying(lambda tried: [tried.back(), tried.depth()]), [None, 2])
            self.assertEqual(state_of(shop), told)
            shop.back()
            shop.back()
            return shop.depth()

        self.assertEqual(self.shop.trying(outer), 1)
        self.assertEqual(state_of(self.shop), self.before)

    def test_copies_go_on(self):
        kept = []

        def action(shop):
            shop.add()
            kept.append(shop.copy())
            kept.append(shop.office())
            shop.back()
            shop.back()

        self.shop.trying(action)
        self.assertEqual(state_of(self.shop), self.before)
        self.assertEqual((kept[0].depth(), len(kept[1].moves)), (3, 4))
        other = self.shop.copy()
        self.shop.trying(lambda shop: other.add())
        self.assertEqual((self.shop.depth(), other.depth()), (2, 3))


if __name__ == "__main__":
    unittest.main()
