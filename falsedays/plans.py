"""Reading of rules: the lines of a rule become sizes, dials and blocks of deeds.

The first two dials are the answer and the mark, the further ones the cells.
"""

from falsedays.wording import figure_in, is_name

MOST_LINES = 8000
MOST_CELLS = 4
MOST_CELL_SIZE = 6
MOST_SIZE = 4
MOST_DEPTH = 8
ANSWER = 0
MARK = 1


class Deed:
    """A deed: put and add tell a dial and a number, if a dial, a number and two blocks, slip a number and two blocks.

    A choose tells its blocks alone.
    """

    def __init__(self, word, dial, number):
        self.word = word
        self.dial = dial
        self.number = number
        self.blocks = []


class RuleLines:
    """The lines of a rule, as far as they were taken.

    part: the word of the line that began the part in which the next line stands, at first "".
    opened: the deeds that are not closed yet, the innermost one last.
    """

    def __init__(self):
        self.part = ""
        self.many = 0
        self.sizes = ()
        self.dials = {}
        self.dial_sizes = []
        self.blocks = {"each": [], "close": []}
        self.opened = []

    def takes(self, line):
        """Whether the line can stand here. If so it is taken."""
        words = line.split(" ")
        self.many += 1
        if self.many > MOST_LINES or words[0] not in LENGTHS or len(words) != LENGTHS[words[0]]:
            return False
        action = ACTIONS[words[0]]
        return action(self, words)

    def is_whole(self):
        """Whether nothing is lacking."""
        return self.part == "end"

    def has_deeds(self):
        """Whether deeds can stand here."""
        return self.part in self.blocks

    def add_deed(self, deed):
        """Puts a deed behind those of the innermost block."""
        if self.opened:
            self.opened[-1].blocks[-1].append(deed)
        else:
            self.blocks[self.part].append(deed)

    def begin_deed(self, deed):
        """Whether a deed with blocks can stand here. If so its first block begins."""
        if not self.has_deeds() or len(self.opened) == MOST_DEPTH:
            return False
        self.add_deed(deed)
        deed.blocks.append([])
        self.opened.append(deed)
        return True

    def has_opened(self, words):
        """Whether the innermost deed with blocks begins with one of some words."""
        return len(self.opened) > 0 and self.opened[-1].word in words

    def value_in(self, name, word):
        """The value of a cell that a word is, or None, also where there is no such cell."""
        if name not in self.dials:
            return None
        return figure_in(word, 0, self.dial_sizes[self.dials[name]] - 1)


def take_office(rule, words):
    """Whether the line with the sizes can stand here. If so it is taken."""
    sizes = tuple([figure_in(word, 1, MOST_SIZE) for word in words[1:]])
    if rule.part != "" or None in sizes:
        return False
    rule.sizes = sizes
    rule.dial_sizes = list(sizes[1:])
    rule.part = "office"
    return True


def take_cell(rule, words):
    """Whether a cell can stand here. If so it is taken."""
    _, name, word = words
    size = figure_in(word, 1, MOST_CELL_SIZE)
    if rule.part != "office" or len(rule.dials) == MOST_CELLS:
        return False
    if not is_name(name) or name in rule.dials or size is None:
        return False
    rule.dials[name] = len(rule.dial_sizes)
    rule.dial_sizes.append(size)
    return True


def take_part(rule, words):
    """Whether the begin of a part can stand here. If so it is taken."""
    if rule.part != AHEAD[words[0]] or rule.opened:
        return False
    rule.part = words[0]
    return True


def take_change(rule, words):
    """Whether a put or an add can stand here. If so it is taken."""
    word, name, told = words
    number = rule.value_in(name, told)
    if not rule.has_deeds() or number is None:
        return False
    rule.add_deed(Deed(word, rule.dials[name], number))
    return True


def take_tell(rule, words):
    """Whether a tell can stand here. If so it is taken."""
    if rule.part != "each":
        return False
    return take_shown(rule, ANSWER, words[1])


def take_hang(rule, words):
    """Whether a hang can stand here. If so it is taken."""
    if not rule.has_deeds():
        return False
    return take_shown(rule, MARK, words[1])


def take_shown(rule, dial, word):
    """Whether a word is a number of the dial of the answers or the marks. If so it is put there."""
    number = figure_in(word, 0, rule.dial_sizes[dial] - 1)
    if number is None:
        return False
    rule.add_deed(Deed("put", dial, number))
    return True


def take_if(rule, words):
    """Whether an if can stand here. If so it is taken."""
    word, name, told = words
    number = rule.value_in(name, told)
    return number is not None and rule.begin_deed(Deed(word, rule.dials[name], number))


def take_slip(rule, words):
    """Whether a slip can stand here. If so it is taken."""
    if rule.part != "each":
        return False
    number = figure_in(words[1], 0, rule.sizes[0] - 1)
    return number is not None and rule.begin_deed(Deed(words[0], None, number))


def take_choose(rule, words):
    """Whether a choose can stand here. If so it is taken."""
    return rule.begin_deed(Deed(words[0], None, None))


def take_else(rule, words):
    """Whether an else can stand here. If so it is taken."""
    if not rule.has_opened(("if", "slip")) or len(rule.opened[-1].blocks) > 1:
        return False
    rule.opened[-1].blocks.append([])
    return True


def take_fi(rule, words):
    """Whether a fi can stand here. If so it is taken."""
    if not rule.has_opened(("if", "slip")):
        return False
    deed = rule.opened.pop()
    if len(deed.blocks) == 1:
        deed.blocks.append([])
    return True


def take_or(rule, words):
    """Whether an or can stand here. If so it is taken."""
    if not rule.has_opened(("choose",)):
        return False
    rule.opened[-1].blocks.append([])
    return True


def take_done(rule, words):
    """Whether a done can stand here. If so it is taken."""
    if not rule.has_opened(("choose",)) or len(rule.opened[-1].blocks) == 1:
        return False
    rule.opened.pop()
    return True


AHEAD = {"each": "office", "close": "each", "end": "close"}
LENGTHS = {"office": 4, "cell": 3, "each": 1, "close": 1, "end": 1, "put": 3, "add": 3, "tell": 2, "hang": 2,
           "if": 3, "slip": 2, "else": 1, "fi": 1, "choose": 1, "or": 1, "done": 1}
ACTIONS = {"office": take_office, "cell": take_cell, "each": take_part, "close": take_part, "end": take_part,
           "put": take_change, "add": take_change, "tell": take_tell, "hang": take_hang, "if": take_if,
           "slip": take_slip, "else": take_else, "fi": take_fi, "choose": take_choose, "or": take_or,
           "done": take_done}
