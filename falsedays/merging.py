"""Offices put together from the sets of their readers, and written as rules."""

from falsedays.clauses import rule_lines
from falsedays.errors import NotWhole, TooMany
from falsedays.offices import MOST_SIZE, MOST_STANDINGS, made_office
from falsedays.readers import reader
from falsedays.walks import live_standings
from falsedays.wording import closed_lines


def merged(office):
    """The office with the same true days whose standings tell unlike rests, numbered as they are met."""
    moves, closings = reader(office)
    # Where no true day leads on from the begin nothing is left of it but the one standing.
    live = live_standings(made_office(office.sizes, moves, closings))
    ways = [{move[:3]: move[3] for move in row if (live >> move[3]) & 1} for row in moves]
    classes = classes_of(ways, closings)
    firsts = [0]
    standings = {classes[0]: 0}
    found = []
    while len(found) < len(firsts):
        first = firsts[len(found)]
        row = []
        for step, goal in ways[first].items():
            if classes[goal] not in standings:
                standings[classes[goal]] = len(firsts)
                firsts.append(goal)
            row.append(step + (standings[classes[goal]],))
        found.append(tuple(row))
    return made_office(office.sizes, tuple(found), tuple([closings[number] for number in firsts]))


def classes_of(ways, closings):
    """For each number of a reader its class: those from which the same rests lead on are of one."""
    classes = numbered(list(closings))
    many = 0
    # Classes are parted by the next step, again and again, until no more come of it.
    while many <= max(classes):
        many = max(classes) + 1
        classes = numbered([(classes[at], tuple([step + (classes[goal],) for step, goal in row.items()]))
                            for at, row in enumerate(ways)])
    return classes


def numbered(keys):
    """The list of the numbers of some keys, each numbered where it stands first."""
    numbers = {}
    for key in keys:
        numbers.setdefault(key, len(numbers))
    return [numbers[key] for key in keys]


def rule_text(office):
    """A rule whose office has the same true days."""
    whole = merged(office)
    if not serves_all(whole):
        raise NotWhole()
    if len(whole.moves) > MOST_STANDINGS:
        raise TooMany(MOST_STANDINGS)
    return closed_lines(rule_lines(whole))


def serves_all(office):
    """Whether the sizes are at most 4, and from each standing each slip leads on, and each closes with some mark."""
    slips = office.sizes[0]
    return (max(office.sizes) <= MOST_SIZE and all([len(lasts) > 0 for lasts in office.closings])
            and all([len({move[0] for move in row}) == slips for row in office.moves]))
