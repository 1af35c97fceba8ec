"""Lines of texts, and the numbers and names in them, read and written."""

from falsedays.errors import BadText

FIGURES = "0123456789"
LETTERS = "abcdefghijklmnopqrstuvwxyz"
MOST_LETTERS = 8
MOST_FIGURES = 9


def read_lines(text, reading):
    """Hands the lines of a text to a reading, one behind another, until it takes one no more.

    A reading has the methods takes(line) and is_whole(), both of which give a flag.
    Raises BadText if a line is not taken, if something is lacking or if the last line is not closed.
    """
    if not isinstance(text, str):
        raise BadText(0)
    lines = text.split("\n")
    for at, line in enumerate(lines[:-1]):
        if not reading.takes(line):
            raise BadText(at + 1)
    if lines[-1] != "" or not reading.is_whole():
        raise BadText(len(lines))


def number_in(word):
    """The number that a word is, decimal, without a sign, needless zeros or too many figures, or None."""
    if not 1 <= len(word) <= MOST_FIGURES or not all([sign in FIGURES for sign in word]):
        return None
    if word[0] == "0" and len(word) > 1:
        return None
    return int(word)


def numbers_in(words):
    """The tuple of the numbers that some words are, or None if one is none."""
    found = tuple([number_in(word) for word in words])
    if None in found:
        return None
    return found


def figure_in(word, low, high):
    """The number of one figure from low to high that a word is, or None."""
    if len(word) == 1 and word in FIGURES and low <= int(word) <= high:
        return int(word)
    return None


def is_name(word):
    """Whether a word is a name."""
    return 1 <= len(word) <= MOST_LETTERS and all([sign in LETTERS for sign in word])


def told_line(word, numbers):
    """The line of a word and some numbers behind it."""
    return " ".join([word] + [str(number) for number in numbers])


def closed_lines(lines):
    """The text of some lines, each closed by a line feed."""
    return "".join([line + "\n" for line in lines])
