"""What the tests share: offices, odd things, and slow judges written straight from the document."""

import random
from itertools import product

from falsedays.desk import Desk
from falsedays.errors import BadText, FalseError, NoDay
from falsedays.live import Live
from falsedays.offices import Office
from falsedays.readers import reader
from falsedays.shop import Shop

LOAF = Office((2, 2, 1), (((0, 1, 0, 0), (1, 0, 0, 1)), ((0, 1, 0, 1), (1, 1, 0, 1))), ((0,), (0,)))
HUNG_UP = Office((2, 1, 2), (((0, 0, 0, 0), (1, 0, 1, 0)),), ((0,),))
NOBODY = Office((1, 1, 1), ((),), ((0,),))
NEVER = Office((2, 1, 1), (((0, 0, 0, 0), (1, 0, 0, 0)),), ((),))
# A move stands twice with unlike goals, so the reader comes to sets of two standings.
FORKED = Office((2, 2, 2), (((0, 0, 0, 0), (0, 0, 0, 1), (1, 0, 1, 2)), ((0, 1, 1, 0), (1, 1, 0, 2)),
                            ((0, 0, 0, 1), (1, 1, 1, 0))), ((0,), (1,), (0, 1)))
# Just 2000, and just 2001, false days of six people are unseen by each two neighbours.
JUST_2000 = Office((3, 2, 1), (((0, 0, 0, 1), (1, 1, 0, 2), (2, 1, 0, 0)), ((0, 0, 0, 2), (1, 0, 0, 1), (2, 0, 0, 1)),
                               ((0, 0, 0, 2), (1, 1, 0, 1), (2, 1, 0, 1))), ((0,),) * 3)
JUST_2001 = Office((3, 2, 1), (((0, 0, 0, 2), (1, 0, 0, 1), (2, 1, 0, 2)), ((0, 1, 0, 1), (1, 1, 0, 2), (2, 0, 0, 1)),
                               ((0, 0, 0, 1), (1, 1, 0, 1), (2, 0, 0, 0))), ((0,),) * 3)


def wide_office(sizes, moves, closings):
    """An office beyond the bounds of the constructor, as other functions may return one."""
    office = Office((1, 1, 1), ((),), ((),))
    office.sizes, office.moves, office.closings = sizes, moves, closings
    return office


def echo_office(far):
    """Each answer is the slip of the comer so far ahead (0 where there is none): far + 1 is enough."""
    many = 2 ** far
    moves = tuple(tuple(sorted((slip, at // (many // 2), 0, at * 2 % many + slip) for slip in (0, 1)))
                  for at in range(many))
    return Office((2, 2, 1), moves, ((0,),) * many)


def two_ends_office(far):
    """The last answer is the first slip, and just far people come between."""
    goal = 2 * far + 3
    moves = [[(0, 0, 0, 1), (1, 0, 0, 2)]]
    for at in range(far):
        moves += [[(0, 0, 0, 2 * at + 3)], [(0, 0, 0, 2 * at + 4)]]
    moves += [[(0, 0, 0, goal)], [(0, 1, 0, goal)], []]
    return Office((2, 2, 1), tuple(tuple(row) for row in moves), ((),) * goal + ((0,),))


def clock_office(high, low):
    """Two days of one board, one counting turns, the other one counting within each: they part only at the end."""
    goal = 1 + high + low
    moves = [((0, 0, 0, 1), (1, 0, 0, 1 + high))]
    for at in range(high):
        turn = (0, 0, 1, 2 + at) if at < high - 1 else (1, 0, 2, goal)
        moves.append(tuple(sorted([(0, 0, 0, 1 + at), turn])))
    for at in range(low - 1):
        moves.append(((0, 0, 0, 2 + high + at),))
    moves += [((0, 0, 1, 1 + high), (1, 1, 2, goal)), ()]
    return wide_office((2, 2, 3), tuple(moves), ((),) * goal + ((0,),))


def fan_office(many):
    """Each step of the begin leads to other standings: the reader has the begin and so many sets."""
    steps = [(slip, answer, mark) for slip in range(4) for answer in range(4) for mark in range(4)]
    begin = [step + (at + 1,) for number, step in enumerate(steps[:many])
             for at in range(6) if (number + 1) >> at & 1]
    return Office((4, 4, 4), (tuple(begin),) + ((),) * 6, ((0,),) * 7)


SIXTY = fan_office(59)
SIXTY_ONE = fan_office(60)


def office_of_days(sizes, days):
    """An office with just these true days: it keeps all steps so far, so it may have any number of standings."""
    begins = sorted({steps[:many] for steps, _ in days for many in range(len(steps) + 1)} | {()},
                    key=lambda steps: (len(steps), steps))
    numbers = {steps: at for at, steps in enumerate(begins)}
    moves, closings = [[] for _ in begins], [[] for _ in begins]
    for steps in begins[1:]:
        moves[numbers[steps[:-1]]].append(steps[-1] + (numbers[steps],))
    for steps, last in sorted(days):
        closings[numbers[steps]].append(last)
    return wide_office(sizes, tuple(map(tuple, moves)), tuple(map(tuple, closings)))


def random_office(rng, sizes, standings, density=0.4):
    """An office of these sizes with moves and closings by chance."""
    moves = []
    for _ in range(standings):
        moves.append(tuple((slip, answer, mark, goal) for slip in range(sizes[0]) for answer in range(sizes[1])
                           for mark in range(sizes[2]) for goal in range(standings)
                           if rng.random() < density / standings * 1.5))
    closings = tuple(tuple(mark for mark in range(sizes[2]) if rng.random() < 0.5) for _ in range(standings))
    return Office(sizes, tuple(moves), closings)


def small_offices(many, seed, most_standings=3):
    """So many small offices, always the same for a seed."""
    rng = random.Random(seed)
    shapes = [(2, 1, 1), (1, 2, 1), (2, 2, 1), (2, 1, 2), (1, 2, 2), (2, 2, 2), (3, 1, 1)]
    return [random_office(rng, rng.choice(shapes), rng.randint(1, most_standings), rng.choice([0.4, 0.8, 1.2]))
            for _ in range(many)]


def nested(thing, deep):
    """A thing inside so many tuples and lists in turn."""
    for at in range(deep):
        thing = [thing] if at % 2 else (thing,)
    return thing


def odd_things():
    """Things of many kinds, none of them a tuple that is right anywhere, none an integer from 0 to 200."""
    return [None, True, False, -1, 201, 10 ** 39, -10 ** 39, "", "0", "ab", b"", b"\x00", bytearray(b"a"), [], [0],
            [()], [(0, 0)], {}, {0: 0}, range(2), slice(0, 1), Ellipsis, NotImplemented, object(), int, tuple, len,
            nested(0, 40), nested((), 39), nested({"a": None}, 38), ((), (), ()), (None,), (True,), ("0",), (b"",),
            (-1,), ((),), ([],), ({},), (0, None), ((0, 0), None), (((0, 0, 0),), "0"), memoryview(b"ab"), iter([0]),
            (x for x in ()), {}.keys(), LOAF, (LOAF, LOAF), Live(LOAF), (Desk(),), Shop(LOAF), NoDay(), BadText(0), NoDay, Office, lambda: 0,
            tuple([None] * 9999)]


def twisted(thing):
    """A nested tuple of integers and None with one spot changed at a time, in many ways."""
    if thing is None:
        return [0, -1, 1, False, "", ()]
    if isinstance(thing, tuple):
        out = [list(thing), thing + (0,), thing + ((),), None]
        if thing:
            out += [thing[:-1], thing[1:], thing + thing[-1:], thing[:1] + thing]
        out += [thing[:at] + (thing[at + 1], thing[at]) + thing[at + 2:] for at in range(len(thing) - 1)]
        for at, part in enumerate(thing):
            out += [thing[:at] + (other,) + thing[at + 1:] for other in twisted(part)]
        return out
    return [thing + 1, thing - 1, str(thing), thing == 1, None, (thing,), 10 ** 39]


def outcome(function, *arguments):
    """What a call gives, or its error."""
    try:
        return function(*arguments)
    except FalseError as error:
        return type(error), tuple(vars(error).values())


def is_whole(thing):
    return isinstance(thing, int) and not isinstance(thing, bool)


def slow_is_step(office, thing):
    return (isinstance(thing, tuple) and len(thing) == 3 and all(is_whole(part) for part in thing)
            and all(0 <= part < size for part, size in zip(thing, office.sizes)))


def slow_is_steps(office, thing):
    return isinstance(thing, tuple) and all(slow_is_step(office, step) for step in thing)


def slow_is_mark(office, thing):
    return is_whole(thing) and 0 <= thing < office.sizes[2]


def slow_is_day(office, thing):
    return (isinstance(thing, tuple) and len(thing) == 2 and slow_is_steps(office, thing[0])
            and slow_is_mark(office, thing[1]))


def slow_behind(office, steps):
    """The standings behind some steps."""
    here = {0}
    for step in steps:
        here = {move[3] for at in here for move in office.moves[at] if move[:3] == step}
    return here


def slow_is_true(office, thing):
    return slow_is_day(office, thing) and any(thing[1] in office.closings[at] for at in slow_behind(office, thing[0]))


def slow_board(day):
    return [step[2] for step in day[0]], day[1]


def all_steps(office):
    return list(product(*(range(size) for size in office.sizes)))


def all_days(office, many):
    """All days of so many people, ascending."""
    return [(steps, last) for steps in product(all_steps(office), repeat=many) for last in range(office.sizes[2])]


def slow_true_days(office, many):
    return [day for day in all_days(office, many) if slow_is_true(office, day)]


def days_by_board(days):
    """The days of each board."""
    boards = {}
    for day in days:
        marks, last = slow_board(day)
        boards.setdefault((tuple(marks), last), []).append(day)
    return boards


def slow_tales(true, day, lot):
    """Of all true days of so many people the tales of a lot for a day."""
    return [other for other in true if slow_board(other) == slow_board(day)
            and all(other[0][place] == day[0][place] for place in lot)]


def slow_unseen(true, day, k):
    many = len(day[0])
    if day in true:
        return False
    lots = [tuple(range(at, at + k)) for at in range(many - k + 1)] or [tuple(range(many))]
    return all(slow_tales(true, day, lot) for lot in lots)


def slow_is_crossing(office, k, thing):
    if not isinstance(thing, tuple) or len(thing) != 3 or not is_whole(thing[2]):
        return False
    one, other, place = thing
    if not slow_is_true(office, one) or not slow_is_true(office, other) or slow_board(one) != slow_board(other):
        return False
    if place < k - 1 or place > len(one[0]):
        return False
    if any(one[0][at] != other[0][at] for at in range(place - k + 1, place)):
        return False
    return not slow_is_true(office, (one[0][:place] + other[0][place:], other[1]))


def slow_is_round(office, thing):
    if not isinstance(thing, tuple) or len(thing) != 7 or not slow_is_mark(office, thing[6]):
        return False
    if not all(slow_is_steps(office, part) for part in thing[:6]):
        return False
    one, other, turn, lead, rest, other_rest, last = thing
    if not turn or any(slow_board((steps, 0)) != slow_board((others, 0))
                       for steps, others in ((one, other), (rest, other_rest))):
        return False
    for steps in (one, other):
        here = slow_behind(office, steps)
        if not here or here != slow_behind(office, steps + turn):
            return False
    return (slow_is_true(office, (one + lead + rest, last)) and slow_is_true(office, (other + lead + other_rest, last))
            and not slow_is_true(office, (one + lead + other_rest, last)))


def slow_is_learning(office, thing):
    if not isinstance(thing, tuple) or len(thing) != 3 or not is_whole(thing[2]):
        return False
    one, other, place = thing
    if not slow_is_true(office, one) or not slow_is_true(office, other) or slow_board(one) != slow_board(other):
        return False
    if not 0 <= place < len(one[0]):
        return False
    steps = list(other[0])
    steps[place] = one[0][place]
    return not slow_is_true(office, (tuple(steps), other[1]))


def is_ascending_of(thing, good):
    return (isinstance(thing, tuple) and all(good(part) for part in thing)
            and all(part < further for part, further in zip(thing, thing[1:])))


def slow_is_paper(office, k, thing):
    moves, closings = reader(office)
    ways = [{move[:3]: move[3] for move in row} for row in moves]
    ways.append({})
    closings = closings + ((),)

    def is_number(part, low=0):
        return is_whole(part) and low <= part < len(moves)

    def is_pair(part):
        return isinstance(part, tuple) and len(part) == 2 and is_number(part[0]) and is_number(part[1])

    def is_triple(part):
        return isinstance(part, tuple) and len(part) == 3 and is_pair(part[:2]) and is_number(part[2], -1)

    if not isinstance(thing, tuple) or len(thing) != 2 or not isinstance(thing[0], tuple) or len(thing[0]) != k:
        return False
    levels, triples = thing
    if not all(is_ascending_of(level, is_pair) for level in levels) or not is_ascending_of(triples, is_triple):
        return False
    if (0, 0) not in levels[0]:
        return False
    for one, other in levels[0]:
        if any((goal, other_goal) not in levels[0] for step, goal in ways[one].items()
               for other_step, other_goal in ways[other].items() if step[2] == other_step[2]):
            return False
    for level, further in zip(levels, levels[1:]):
        if any((goal, ways[other][step]) not in further for one, other in level
               for step, goal in ways[one].items() if step in ways[other]):
            return False
    there = set(triples)
    if any((one, other, one) not in there for one, other in levels[-1]):
        return False
    for a, b, c in triples:
        if set(closings[a]) & set(closings[b]) - set(closings[c]):
            return False
        if any((goal, other_goal, ways[c].get(other_step, -1)) not in there for step, goal in ways[a].items()
               for other_step, other_goal in ways[b].items() if step[2] == other_step[2]):
            return False
    return True


def slow_reader_sets(office, most=10 ** 6):
    """All sets of standings, none of them empty, that steps lead to, at most so many, by frozensets."""
    sets = [frozenset([0])]
    met = {sets[0]}
    for here in sets:
        for step in {move[:3] for at in here for move in office.moves[at]}:
            goal = frozenset(move[3] for at in here for move in office.moves[at] if move[:3] == step)
            if goal not in met and len(sets) < most:
                met.add(goal)
                sets.append(goal)
    return sets


def slow_is_sure(office):
    for here in slow_reader_sets(office):
        steps = {move[:3] for at in here for move in office.moves[at]}
        if sorted(step[0] for step in steps) != list(range(office.sizes[0])):
            return False
        if len({mark for at in here for mark in office.closings[at]}) != 1:
            return False
    return True


def all_boards(office, many):
    return [(marks, last) for marks in product(range(office.sizes[2]), repeat=many) for last in range(office.sizes[2])]


def slow_on_board(true, the_board):
    """Of some true days those of a board."""
    return [day for day in true if slow_board(day) == (list(the_board[0]), the_board[1])]


# No boards of LOAF.
NO_BOARDS = [((), 1), ((1,), 0), ((-1,), 0), ((0,), -1), ((True,), 0), ((0,), False), ([0], 0), [(0,), 0], ((0,),),
             ((0,), 0, 0), (0, 0), (((0,),), 0), (("0",), 0), ((0, None), 0)]
# No days of LOAF.
NO_DAYS = [((), 1), ((), False), ([], 0), [(), 0], ((),), (((2, 0, 0),), 0), (((0, 0),), 0), (((0, 0, 1),), 0),
           (([0, 0, 0],), 0), (((True, 0, 0),), 0), ((0, 0, 0), 0)]
