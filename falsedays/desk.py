"""A desk that works by lines: it keeps offices under names, and tells what is asked of them."""

from falsedays.alone import learning
from falsedays.chains import same_days
from falsedays.counting import MOST_MODULUS, many_days
from falsedays.errors import NoLine
from falsedays.neighbours import enough, least_k
from falsedays.offices import is_true
from falsedays.proving import forging, indiscreet
from falsedays.reading import read_day, read_office
from falsedays.rules import read_rule
from falsedays.shelf import Shelf
from falsedays.tales import seeing, unseen
from falsedays.texts import day_text
from falsedays.wording import is_name, number_in

FEED_SIGN = "|"


class Desk:
    """A desk with the offices that it keeps."""

    def __init__(self):
        self._shelf = Shelf()

    def tell(self, line):
        """Does a line, and gives what is told of it."""
        word, parts = parted(line)
        action = ACTIONS[word]
        return action(self._shelf, parts)

    def undoable(self):
        """How many lines can be taken back."""
        return len(self._shelf.elders)


def parted(line):
    """The first word of a line and the list of its further parts, as they are meant. Raises NoLine."""
    if not isinstance(line, str) or "\n" in line:
        raise NoLine()
    word = line.partition(" ")[0]
    if word not in FORMS:
        raise NoLine()
    kinds = FORMS[word]
    # The last part takes all that stands behind the blank ahead of it: only a text may have blanks.
    words = line.split(" ", len(kinds))
    if words[0] != word or len(words) != len(kinds) + 1:
        raise NoLine()
    parts = [part_of(kind, told) for kind, told in zip(kinds, words[1:])]
    if None in parts:
        raise NoLine()
    return word, parts


def part_of(kind, told):
    """What a part of a line is meant to be, or None if it is not of its kind."""
    if kind == "number":
        return number_in(told)
    if kind == "name" and is_name(told):
        return told
    if kind == "text" and told != "":
        return told.replace(FEED_SIGN, "\n")
    return None


def yes_or_no(flag):
    """The word for a flag."""
    return "yes" if flag else "no"


def tell_office(shelf, parts):
    """Keeps the office of a text."""
    name, text = parts
    shelf.keep(name, read_office(text))
    return "ok"


def tell_rule(shelf, parts):
    """Keeps the office of a rule."""
    name, text = parts
    shelf.keep(name, read_rule(text))
    return "ok"


def tell_drop(shelf, parts):
    """Drops an office."""
    shelf.drop(parts[0])
    return "ok"


def tell_undo(shelf, parts):
    """Takes back the last office, rule or drop line that is not taken back."""
    shelf.undo()
    return "ok"


def tell_names(shelf, parts):
    """The names of all offices."""
    return " ".join(sorted(shelf.offices)) or "none"


def tell_least(shelf, parts):
    """The least k that is enough."""
    k = least_k(shelf.named(parts[0]))
    return "none" if k is None else str(k)


def tell_enough(shelf, parts):
    """Whether a k is enough."""
    name, k = parts
    return yes_or_no(enough(shelf.named(name), k))


def tell_alone(shelf, parts):
    """Whether nobody learns anything of the others."""
    return yes_or_no(learning(shelf.named(parts[0])) is None)


def tell_shows(shelf, parts):
    """Whether everybody can show the own slip."""
    return yes_or_no(forging(shelf.named(parts[0])) is None)


def tell_discreet(shelf, parts):
    """Whether no board settles a slip."""
    return yes_or_no(indiscreet(shelf.named(parts[0])) is None)


def tell_many(shelf, parts):
    """The number of the true days of so many people, by the greatest modulus."""
    name, many = parts
    return str(many_days(shelf.named(name), many, MOST_MODULUS))


def tell_true(shelf, parts):
    """Whether a day is true."""
    name, text = parts
    office = shelf.named(name)
    return yes_or_no(is_true(office, read_day(office, text)))


def tell_unseen(shelf, parts):
    """Whether a day is false and unseen by each so many neighbours."""
    name, k, text = parts
    office = shelf.named(name)
    return yes_or_no(unseen(office, read_day(office, text), k))


def tell_sees(shelf, parts):
    """The lots that see a day."""
    name, text = parts
    office = shelf.named(name)
    return " ".join([lot_word(lot) for lot in seeing(office, read_day(office, text))]) or "none"


def lot_word(lot):
    """The word for a lot."""
    return ",".join([str(place) for place in lot]) or "-"


def tell_same(shelf, parts):
    """Whether two offices have the same true days, or the day that parts them."""
    name, other_name = parts
    day = same_days(shelf.named(name), shelf.named(other_name))
    return "yes" if day is None else day_text(day).replace("\n", FEED_SIGN)


FORMS = {"office": ("name", "text"), "rule": ("name", "text"), "drop": ("name",), "names": (), "least": ("name",),
         "enough": ("name", "number"), "alone": ("name",), "shows": ("name",), "discreet": ("name",),
         "many": ("name", "number"), "true": ("name", "text"), "unseen": ("name", "number", "text"),
         "sees": ("name", "text"), "same": ("name", "name"), "undo": ()}
ACTIONS = {"office": tell_office, "rule": tell_rule, "drop": tell_drop, "names": tell_names, "least": tell_least,
           "enough": tell_enough, "alone": tell_alone, "shows": tell_shows, "discreet": tell_discreet,
           "many": tell_many, "true": tell_true, "unseen": tell_unseen, "sees": tell_sees, "same": tell_same,
           "undo": tell_undo}
