"""19.1 and 19.2: offices put together, and rules that are written for them."""

import random
import unittest
from itertools import product

from falsedays.chains import chained, same_days
from falsedays.clauses import rule_lines
from falsedays.counting import many_days
from falsedays.errors import NotWhole, TooMany
from falsedays.merging import merged, rule_text
from falsedays.neighbours import least_k
from falsedays.offices import Office, is_true, true_days
from falsedays.readers import reader
from falsedays.rules import read_rule
from tests.helpers import (FORKED, HUNG_UP, LOAF, NEVER, NOBODY, SIXTY, SIXTY_ONE, echo_office, office_of_days,
                           random_office, slow_true_days, small_offices, two_ends_office, wide_office)

NAMED = [LOAF, HUNG_UP, FORKED, NEVER, NOBODY, SIXTY, echo_office(1), echo_office(3), two_ends_office(2)]
# The second and the third standing tell the same, the fourth one is never met, and slip 2 leads to a dead end.
TOLD_TWICE = Office((3, 1, 1), (((0, 0, 0, 1), (1, 0, 0, 2), (2, 0, 0, 4)), ((0, 0, 0, 2), (2, 0, 0, 4)),
                                ((0, 0, 0, 1),), ((1, 0, 0, 0),), ((0, 0, 0, 4),)), ((), (0,), (0,), (0,), ()))


def ring(many, whole=True):
    """A whole office that counts its slips 1 round and round, and says so just when it begins again."""
    moves = tuple(tuple(sorted([(0, 0, 0, at), (1, int(at == many - 1), 0, (at + 1) % many)])[:2 if whole else 1])
                  for at in range(many))
    return wide_office((2, 2, 1), moves, ((0,),) * many)


def tell_apart(office, one, other):
    """Whether unlike rests lead on from two standings of an office with one way at most for each step."""
    ways = [{move[:3]: move[3] for move in row} for row in office.moves] + [{}]
    closings = office.closings + ((),)
    pairs = [(one, other)]
    for pair in pairs:
        if closings[pair[0]] != closings[pair[1]]:
            return True
        for step in {*ways[pair[0]], *ways[pair[1]]}:
            goal = (ways[pair[0]].get(step, -1), ways[pair[1]].get(step, -1))
            if goal not in pairs:
                pairs.append(goal)
    return False


def live_standings(office):
    live = {at for at, lasts in enumerate(office.closings) if lasts}
    for _ in office.moves:
        live |= {at for at, row in enumerate(office.moves) if any(move[3] in live for move in row)}
    return live


def met_in_order(office):
    """The standings as they are met from the begin, each time by ascending steps."""
    met = [0]
    for at in met:
        for move in sorted(office.moves[at]):
            if move[3] not in met:
                met.append(move[3])
    return met


def whole_office(rng, sizes, standings, more=0.3):
    """An office from each standing of which each slip leads on, and each of which closes."""
    moves, closings = [], []
    for _ in range(standings):
        row = set()
        for slip in range(sizes[0]):
            while not row or max(move[0] for move in row) < slip or rng.random() < more:
                row.add((slip, rng.randrange(sizes[1]), rng.randrange(sizes[2]), rng.randrange(standings)))
        moves.append(tuple(sorted(row)))
        closings.append(tuple(sorted({rng.randrange(sizes[2]) for _ in range(rng.randint(1, 3))})))
    return Office(sizes, tuple(moves), tuple(closings))


def whole_offices(many, seed, most_standings=4):
    rng = random.Random(seed)
    return [whole_office(rng, tuple(rng.randint(1, 4) for _ in range(3)), rng.randint(1, most_standings))
            for _ in range(many)]


def slow_is_whole(office):
    """By the words of the document, with what is merged."""
    found = merged(office)
    return (max(office.sizes) <= 4 and all(found.closings)
            and all({move[0] for move in row} == set(range(office.sizes[0])) for row in found.moves))


class MergedTest(unittest.TestCase):
    def check(self, office):
        """Judges what is merged by its description."""
        found = merged(office)
        self.assertIsInstance(found, Office)
        self.assertEqual(found.sizes, office.sizes)
        self.assertEqual(len(found.moves), len(found.closings))
        for row, lasts in zip(found.moves, found.closings):
            self.assertEqual((type(row), type(lasts)), (tuple, tuple))
            self.assertEqual(list(row), sorted(set(row)))
            self.assertEqual(list(lasts), sorted(set(lasts)))
            # One way at most for each step.
            self.assertEqual(len({move[:3] for move in row}), len(row))
        many = len(found.moves)
        self.assertEqual(met_in_order(found), list(range(many)))
        if live_standings(found):
            self.assertEqual(live_standings(found), set(range(many)))
        else:
            self.assertEqual((found.moves, found.closings), (((),), ((),)))
        for one, other in product(range(many), repeat=2):
            self.assertEqual(tell_apart(found, one, other), one != other)
        self.assertIsNone(same_days(office, found))
        return found

    def test_own_words(self):
        for office in (LOAF, HUNG_UP, NOBODY, ring(5), ring(60)):
            self.assertTrue(self.check(office) == office)
        self.assertTrue(merged(NEVER) == Office((2, 1, 1), ((),), ((),)))
        self.assertTrue(merged(TOLD_TWICE) == Office((3, 1, 1), (((0, 0, 0, 1), (1, 0, 0, 1)), ((0, 0, 0, 1),)),
                                                     ((), (0,))))

    def test_named(self):
        for office in NAMED + [TOLD_TWICE]:
            self.check(office)
        self.assertEqual(len(merged(echo_office(3)).moves), 8)
        # All sets of the fan but the begin tell the same.
        self.assertEqual(len(merged(SIXTY).moves), 2)

    def test_no_true_day(self):
        for moves in (((),), (((0, 0, 0, 0),),), (((0, 0, 0, 1),), ((0, 0, 0, 0),)), ((), ((0, 0, 0, 0),))):
            office = Office((2, 2, 2), moves, ((),) * len(moves))
            self.assertTrue(self.check(office) == Office((2, 2, 2), ((),), ((),)))
        # A standing that closes, but is never met.
        office = Office((2, 2, 2), ((), ((0, 0, 0, 0),)), ((), (0, 1)))
        self.assertTrue(self.check(office) == Office((2, 2, 2), ((),), ((),)))

    def test_dead_ends(self):
        # What leads to no closing is left out; also where a set has a standing that closes.
        office = Office((2, 1, 1), (((0, 0, 0, 0), (0, 0, 0, 1), (1, 0, 0, 1)), ((0, 0, 0, 1),)), ((0,), ()))
        self.assertTrue(self.check(office) == Office((2, 1, 1), (((0, 0, 0, 0),),), ((0,),)))
        office = Office((1, 1, 1), (((0, 0, 0, 1),), ((0, 0, 0, 2),), ((0, 0, 0, 2),)), ((0,), (0,), ()))
        self.assertTrue(self.check(office) == Office((1, 1, 1), (((0, 0, 0, 1),), ()), ((0,), (0,))))

    def test_many_offices(self):
        fewer = 0
        for office in small_offices(250, 431, 5) + whole_offices(60, 432):
            found = self.check(office)
            fewer += len(found.moves) < len(reader(office)[0])
            again = merged(found)
            self.assertTrue(again == found)
            self.assertIsNot(again, found)
            for many in range(3):
                if (office.sizes[0] * office.sizes[1] * office.sizes[2]) ** many < 300:
                    self.assertEqual(slow_true_days(office, many), slow_true_days(found, many))
        self.assertGreater(fewer, 100)

    def test_the_seventh_fact(self):
        both = {True: 0, False: 0}
        for sizes in ((1, 1, 1), (2, 1, 1), (1, 1, 2)):
            rng = random.Random(433)
            offices = [random_office(rng, sizes, rng.randint(1, 3), rng.choice([0.3, 0.8])) for _ in range(45)]
            for one, other in product(offices, offices):
                alike = same_days(one, other) is None
                self.assertEqual(merged(one) == merged(other), alike)
                both[alike] += 1
            for one, other in zip(offices, offices[1:]):
                # Within so few people they part, if they do.
                alike = all(true_days(one, many) == true_days(other, many) for many in range(7))
                if not alike:
                    self.assertFalse(merged(one) == merged(other))
        self.assertGreater(min(both.values()), 300)

    def test_by_all_days(self):
        parted = 0
        for office in [LOAF, FORKED, TOLD_TWICE] + small_offices(40, 434):
            days = [day for many in range(4) for day in slow_true_days(office, many)]
            other = office_of_days(office.sizes, days)
            if len(other.moves) <= 60:
                found = self.check(other)
                self.assertEqual([day for many in range(5) for day in slow_true_days(found, many)], days)
                parted += len(found.moves) < len(other.moves)
        self.assertGreater(parted, 10)

    def test_sixty_sets(self):
        self.assertEqual(len(merged(ring(60)).moves), 60)
        for office in (ring(61), SIXTY_ONE, wide_office((2, 2, 1), ring(61).moves, ((),) * 61)):
            with self.assertRaises(TooMany) as caught:
                merged(office)
            self.assertEqual(caught.exception.most, 60)

    def test_returned_offices(self):
        office = chained(LOAF, chained(LOAF, chained(LOAF, LOAF)))
        found = self.check(office)
        self.assertEqual(found.sizes, (2, 16, 1))
        self.assertEqual(least_k(found), least_k(office))
        wide = wide_office((6, 7, 5), (((5, 6, 4, 2), (5, 6, 4, 1)), ((0, 6, 4, 1),), ((0, 6, 4, 2),)),
                           ((4,), (3,), (3,)))
        self.assertTrue(self.check(wide) == wide_office((6, 7, 5), (((5, 6, 4, 1),), ((0, 6, 4, 1),)), ((4,), (3,))))
        # It may be passed on, whatever its size.
        self.assertEqual(many_days(merged(ring(55)), 100, 10 ** 30), 2 ** 100 % 10 ** 30)

    def test_office_stays(self):
        before = vars(TOLD_TWICE).copy()
        self.assertTrue(merged(TOLD_TWICE) == merged(TOLD_TWICE))
        self.assertEqual(vars(TOLD_TWICE), before)


class RuleTextTest(unittest.TestCase):
    def check(self, office):
        """Judges a rule by reading it."""
        text = rule_text(office)
        self.assertIs(type(text), str)
        self.assertLessEqual(text.count("\n"), 8000)
        found = read_rule(text)
        self.assertEqual(found.sizes, office.sizes)
        self.assertIsNone(same_days(found, office))
        self.assertTrue(merged(found) == merged(office))
        self.assertEqual(rule_text(office), text)
        return found

    def test_named(self):
        for office in (LOAF, HUNG_UP, echo_office(1), echo_office(2), echo_office(4), ring(1), ring(2), ring(20)):
            found = self.check(office)
            for many in range(4):
                self.assertEqual(slow_true_days(found, many), slow_true_days(office, many))

    def test_many_offices(self):
        more = 0
        for office in whole_offices(150, 441, 5):
            if slow_is_whole(office) and len(merged(office).moves) <= 20:
                self.check(office)
                more += any(len({move[:3] for move in row}) > office.sizes[0] for row in merged(office).moves)
        self.assertGreater(more, 60)

    def test_small_offices(self):
        whole = {True: 0, False: 0}
        for office in small_offices(300, 442) + whole_offices(40, 443):
            right = slow_is_whole(office)
            whole[right] += 1
            if right and len(merged(office).moves) <= 20:
                found = self.check(office)
                for many in range(3):
                    if (office.sizes[0] * office.sizes[1] * office.sizes[2]) ** many < 300:
                        self.assertEqual(slow_true_days(found, many), slow_true_days(office, many))
            elif not right:
                self.assertRaises(NotWhole, rule_text, office)
        self.assertGreater(min(whole.values()), 30)

    def test_several_moves_by_one_slip(self):
        steps = [(slip, answer, mark) for slip in range(4) for answer in range(4) for mark in range(4)]
        office = Office((4, 4, 4), (tuple(step + (0,) for step in steps),), ((0, 1, 2, 3),))
        self.check(office)
        office = Office((1, 1, 1), (((0, 0, 0, 0), (0, 0, 0, 1)), ((0, 0, 0, 0),)), ((0,), (0,)))
        self.check(office)
        office = Office((1, 2, 2), (((0, 0, 0, 0), (0, 1, 1, 1)), ((0, 0, 1, 0), (0, 1, 0, 1))), ((0, 1), (1,)))
        self.check(office)

    def test_whole_where_the_office_is_not(self):
        # Standings that are never met, or lead to no closing, do not count.
        office = Office((1, 2, 1), (((0, 0, 0, 0), (0, 1, 0, 1)), (), ()), ((0,), (), (0,)))
        self.check(office)
        self.assertEqual(len(merged(office).moves), 1)

    def test_not_whole(self):
        lacking = [NEVER, NOBODY, SIXTY, two_ends_office(1), TOLD_TWICE, ring(4, False),
                   Office((2, 1, 1), (((0, 0, 0, 0),),), ((0,),)),
                   Office((2, 1, 1), (((1, 0, 0, 0),),), ((0,),)),
                   Office((1, 1, 1), (((0, 0, 0, 1),), ((0, 0, 0, 0),)), ((0,), ())),
                   Office((1, 1, 1), (((0, 0, 0, 1),), ((0, 0, 0, 0),)), ((), (0,))),
                   Office((1, 1, 1), (((0, 0, 0, 1),), ()), ((0,), (0,)))]
        for office in lacking:
            self.assertFalse(slow_is_whole(office))
            self.assertRaises(NotWhole, rule_text, office)

    def test_sizes(self):
        self.check(chained(LOAF, LOAF))
        for office in (chained(LOAF, chained(LOAF, LOAF)), wide_office((1, 5, 1), (((0, 0, 0, 0),),), ((0,),)),
                       wide_office((5, 1, 1), (tuple((slip, 0, 0, 0) for slip in range(5)),), ((0,),)),
                       wide_office((1, 1, 5), (((0, 0, 0, 0),),), ((0,),))):
            self.assertRaises(NotWhole, rule_text, office)

    def test_just_20(self):
        for many in (1, 2, 3, 4, 9, 10, 19, 20):
            self.check(ring(many))
            self.assertEqual(len(read_rule(rule_text(ring(many))).moves), many)
        for many in (21, 22, 60):
            with self.assertRaises(TooMany) as caught:
                rule_text(ring(many))
            self.assertEqual(caught.exception.most, 20)
        # Twice as many standings of which each two tell the same are not too many.
        moves = ring(20).moves
        twice = tuple(tuple(move[:3] + (move[3] + 20 * (at % 2),) for move in row) for at, row in enumerate(moves * 2))
        self.check(wide_office((2, 2, 1), twice, ((0,),) * 40))

    def test_order(self):
        # The reader ahead of all, then what is not whole, then too many.
        for office in (SIXTY_ONE, ring(61), wide_office((2, 5, 1), ring(61).moves, ((0,),) * 61),
                       wide_office((2, 2, 1), ring(61).moves, ((),) * 61)):
            with self.assertRaises(TooMany) as caught:
                rule_text(office)
            self.assertEqual(caught.exception.most, 60)
        for office in (wide_office((2, 5, 1), ring(30).moves, ((0,),) * 30),
                       wide_office((2, 2, 1), ring(30).moves, ((0,),) * 29 + ((),))):
            self.assertRaises(NotWhole, rule_text, office)

    def test_most_lines(self):
        rng = random.Random(444)
        steps = [(slip, answer, mark) for slip in range(4) for answer in range(4) for mark in range(4)]
        office = Office((4, 4, 4), tuple(tuple(step + (rng.randrange(20),) for step in steps) for _ in range(20)),
                        tuple((0, 1, 2, 3) if at else (0,) for at in range(20)))
        found = self.check(office)
        self.assertEqual(len(found.moves), 20)
        # As long as any can be: each move changes all cells.
        far = [[goal for goal in range(20) if all(goal // weight % 3 != at // weight % 3 for weight in (1, 3, 9))][0]
               for at in range(20)]
        office = Office((4, 4, 4), tuple(tuple(step + (goal,) for step in steps) for goal in far),
                        ((0, 1, 2, 3),) * 20)
        lines = rule_lines(office)
        self.assertGreater(len(lines), 7500)
        self.assertLessEqual(len(lines), 8000)
        read_rule("".join(line + "\n" for line in lines))

    def test_true_days_of_rules(self):
        rng = random.Random(445)
        for office in whole_offices(30, 446):
            if len(merged(office).moves) <= 20:
                found = read_rule(rule_text(office))
                for _ in range(10):
                    steps = tuple(tuple(rng.randrange(size) for size in office.sizes) for _ in range(rng.randint(0, 8)))
                    for last in range(office.sizes[2]):
                        self.assertEqual(is_true(found, (steps, last)), is_true(office, (steps, last)))


if __name__ == "__main__":
    unittest.main()
