"""13.1: offices and days that are read from texts."""

import re
import unittest

from falsedays.errors import BadOffice, BadText, NoDay
from falsedays.offices import Office, is_day
from falsedays.reading import read_day, read_office
from tests.helpers import (FORKED, HUNG_UP, LOAF, NEVER, NOBODY, SIXTY, SIXTY_ONE, echo_office, outcome,
                           small_offices)
from tests.texts import changed_texts, no_strings, text_of, text_of_day

LOAF_TEXT = ("office 2 2 1\nat 0\nmove 0 1 0 0\nmove 1 0 0 1\ncloses 0\n"
             "at 1\nmove 0 1 0 1\nmove 1 1 0 1\ncloses 0\n")
DAY_TEXT = "step 1 0 0\nstep 1 1 0\nlast 0\n"
NUMBER = "(?:0|[1-9][0-9]{0,8})"


def numbers(line):
    return tuple(int(word) for word in line.split(" ")[1:])


def slow_read_office(text):
    """The parts of an office, or the number of the wrong line."""
    lines = text.split("\n")
    parts, ahead = [], "begin"
    for at, line in enumerate(lines[:-1]):
        if ahead == "begin":
            good = re.fullmatch(f"office( {NUMBER}){{3}}", line)
            parts, ahead = [numbers(line) if good else None, [], []], "closed"
        elif ahead == "closed":
            good = line == f"at {len(parts[1])}"
            parts[1].append(())
            ahead = "at"
        elif re.fullmatch(f"move( {NUMBER}){{4}}", line):
            good = True
            parts[1][-1] += (numbers(line),)
        else:
            good = re.fullmatch(f"closes( {NUMBER})*", line)
            parts[2].append(numbers(line) if good else ())
            ahead = "closed"
        if not good:
            return at + 1
    if ahead != "closed" or lines[-1]:
        return len(lines)
    return parts[0], tuple(parts[1]), tuple(parts[2])


def slow_read_day(text):
    """A day, or the number of the wrong line."""
    lines = text.split("\n")
    steps, last = [], None
    for at, line in enumerate(lines[:-1]):
        if last is None and re.fullmatch(f"step( {NUMBER}){{3}}", line):
            steps.append(numbers(line))
        elif last is None and re.fullmatch(f"last {NUMBER}", line):
            last = numbers(line)[0]
        else:
            return at + 1
    if last is None or lines[-1]:
        return len(lines)
    return tuple(steps), last


def slow_office_outcome(text):
    found = slow_read_office(text)
    if isinstance(found, int):
        return BadText, (found,)
    return outcome(Office, *found)


def slow_day_outcome(office, text):
    found = slow_read_day(text)
    if isinstance(found, int):
        return BadText, (found,)
    return found if is_day(office, found) else (NoDay, ())


class ReadOfficeTest(unittest.TestCase):
    def bad(self, line, text):
        with self.assertRaises(BadText) as caught:
            read_office(text)
        self.assertEqual(caught.exception.line, line)

    def bad_part(self, part, text):
        with self.assertRaises(BadOffice) as caught:
            read_office(text)
        self.assertEqual(caught.exception.part, part)

    def test_own_words(self):
        self.assertTrue(read_office(LOAF_TEXT) == LOAF)
        self.assertTrue(read_office("office 1 1 1\nat 0\ncloses 0\n") == NOBODY)
        self.assertTrue(read_office("office 2 1 1\nat 0\nmove 0 0 0 0\nmove 1 0 0 0\ncloses\n") == NEVER)

    def test_many_offices(self):
        offices = [LOAF, HUNG_UP, NOBODY, NEVER, FORKED, SIXTY, SIXTY_ONE, echo_office(4)]
        for office in offices + small_offices(100, 131):
            self.assertTrue(read_office(text_of(office)) == office)
        largest = Office((4, 4, 4), (tuple((3, 3, 3, goal) for goal in range(20)),) * 20, ((0, 1, 2, 3),) * 20)
        self.assertTrue(read_office(text_of(largest)) == largest)

    def test_changed_texts(self):
        seen = set()
        for office in (LOAF, FORKED, NOBODY):
            for text in changed_texts(text_of(office)):
                right = slow_office_outcome(text)
                self.assertEqual(outcome(read_office, text), right, text)
                seen.add(right if isinstance(right, tuple) else "office")
        self.assertTrue({(BadText, (line,)) for line in range(1, 12)} <= seen)
        self.assertTrue({(BadOffice, (part,)) for part in ("sizes", "moves", "closings")} | {"office"} <= seen)

    def test_no_string(self):
        for thing in no_strings():
            self.bad(0, thing)

    def test_lines_that_cannot_stand_there(self):
        self.bad(1, "at 0\ncloses\n")
        self.bad(2, "office 1 1 1\noffice 1 1 1\n")
        self.bad(2, "office 1 1 1\nat 1\ncloses\n")
        self.bad(2, "office 1 1 1\nmove 0 0 0 0\n")
        self.bad(2, "office 1 1 1\ncloses\n")
        self.bad(3, "office 1 1 1\nat 0\nat 1\ncloses\n")
        self.bad(4, "office 1 1 1\nat 0\ncloses\ncloses\n")
        self.bad(4, "office 1 1 1\nat 0\ncloses\nmove 0 0 0 0\n")
        self.bad(4, "office 1 1 1\nat 0\ncloses\nat 0\ncloses\n")
        self.bad(4, "office 1 1 1\nat 0\ncloses\nat 2\ncloses\n")
        self.bad(4, "office 1 1 1\nat 0\ncloses\n\n")

    def test_what_is_lacking_and_what_stands_behind(self):
        self.bad(1, "")
        self.bad(1, "office 1 1 1")
        self.bad(3, "office 1 1 1\nat 0\n")
        self.bad(3, "office 1 1 1\nat 0\ncloses")
        self.bad(4, "office 1 1 1\nat 0\ncloses\nat 1")
        self.bad(4, "office 1 1 1\nat 0\ncloses\n ")
        self.bad(5, "office 1 1 1\nat 0\ncloses\nat 1\n")
        self.bad(10, LOAF_TEXT + "at 2")
        self.bad(9, LOAF_TEXT[:-1])

    def test_numbers(self):
        self.bad(1, "office 01 1 1\nat 0\ncloses\n")
        self.bad(1, "office 1 1 1000000000\nat 0\ncloses\n")
        self.bad(1, "office 1 1 +1\nat 0\ncloses\n")
        self.bad(1, "office 1 1 -1\nat 0\ncloses\n")
        self.bad_part("sizes", "office 1 1 999999999\nat 0\ncloses\n")
        self.bad_part("sizes", "office 1 0 1\nat 0\ncloses\n")
        self.bad_part("sizes", "office 5 1 1\nat 0\nmove 9 9 9 9\ncloses 9\n")
        self.bad(2, "office 5 1 1\nat 00\ncloses\n")
        self.bad(3, "office 5 1 1\nat 0\ncloses 00\n")
        self.bad_part("moves", "office 1 1 1\nat 0\nmove 0 0 0 123456789\ncloses\n")
        self.bad_part("closings", "office 1 1 1\nat 0\nmove 0 0 0 0\ncloses 123456789\n")

    def test_first_line_alone(self):
        self.bad_part("moves", "office 1 1 1\n")
        self.bad_part("sizes", "office 0 1 1\n")
        self.bad_part("sizes", "office 999999999 1 1\n")

    def test_parts(self):
        self.bad_part("moves", "office 1 1 1\nat 0\nmove 0 0 0 1\ncloses 7\n")
        self.bad_part("moves", "office 2 1 1\nat 0\nmove 1 0 0 0\nmove 0 0 0 0\ncloses\n")
        self.bad_part("moves", "office 2 1 1\nat 0\nmove 1 0 0 0\nmove 1 0 0 0\ncloses\n")
        self.bad_part("closings", "office 1 1 2\nat 0\ncloses 1 0\n")
        self.bad_part("closings", "office 1 1 2\nat 0\ncloses 0 0\n")
        self.bad_part("closings", "office 1 1 2\nat 0\ncloses 2\n")
        many = "office 1 1 1\n" + "".join(f"at {at}\ncloses\n" for at in range(20))
        self.assertEqual(len(read_office(many).moves), 20)
        self.bad_part("moves", many + "at 20\ncloses\n")
        self.bad(42, many + "at 21\ncloses\n")

    def test_other_line_ends(self):
        self.bad(1, LOAF_TEXT.replace("\n", "\r\n"))
        self.bad(1, LOAF_TEXT.replace("\n", "\r"))
        self.bad(1, LOAF_TEXT.replace("\n", "\x0b"))
        self.bad(1, LOAF_TEXT.replace("\n", "|"))
        self.bad(3, LOAF_TEXT.replace("at 0\n", "at 0\n\n", 1))


class ReadDayTest(unittest.TestCase):
    def bad(self, line, text, office=LOAF):
        with self.assertRaises(BadText) as caught:
            read_day(office, text)
        self.assertEqual(caught.exception.line, line)

    def test_own_words(self):
        self.assertEqual(read_day(LOAF, DAY_TEXT), (((1, 0, 0), (1, 1, 0)), 0))
        self.assertEqual(read_day(LOAF, "last 0\n"), ((), 0))
        # False days are days.
        self.assertEqual(read_day(LOAF, "step 0 0 0\nlast 0\n"), (((0, 0, 0),), 0))
        self.assertEqual(read_day(SIXTY_ONE, "step 3 3 3\nlast 3\n"), (((3, 3, 3),), 3))
        for many in (30, 200):
            day = (((1, 0, 1), (0, 1, 0)) * (many // 2), 1)
            self.assertEqual(read_day(FORKED, text_of_day(day)), day)

    def test_changed_texts(self):
        seen = set()
        for office in (LOAF, FORKED, NOBODY):
            for text in changed_texts(DAY_TEXT) + changed_texts("last 0\n") + changed_texts("step 0 0 0\nlast 0\n"):
                right = slow_day_outcome(office, text)
                self.assertEqual(outcome(read_day, office, text), right, text)
                seen.add(right)
        self.assertTrue({(BadText, (line,)) for line in range(1, 5)} | {(NoDay, ())} <= seen)

    def test_no_string(self):
        for thing in no_strings():
            self.bad(0, thing)
            self.bad(0, thing, SIXTY_ONE)

    def test_lines(self):
        self.bad(1, "")
        self.bad(1, "last 0")
        self.bad(1, "\n")
        self.bad(1, "last\n")
        self.bad(1, "last 0 0\n")
        self.bad(1, "step 0 0\nlast 0\n")
        self.bad(2, "step 1 0 0\n")
        self.bad(2, "last 0\nlast 0\n")
        self.bad(2, "last 0\nstep 0 0 0\n")
        self.bad(2, "last 0\n\n")
        self.bad(2, "last 0\nx")
        self.bad(3, DAY_TEXT[:-1])
        self.bad(4, DAY_TEXT + "last 0")

    def test_numbers(self):
        self.bad(1, "last 00\n")
        self.bad(1, "last 1000000000\n")
        self.bad(2, "step 9 9 9\nlast 00\n")
        for text in ("last 1\n", "last 999999999\n", "step 2 0 0\nlast 0\n", "step 0 2 0\nlast 0\n",
                     "step 0 0 1\nlast 0\n", "step 0 0 123456789\nlast 0\n"):
            self.assertRaises(NoDay, read_day, LOAF, text)

    def test_other_line_ends(self):
        self.bad(1, DAY_TEXT.replace("\n", "\r\n"))
        self.bad(1, DAY_TEXT.replace("\n", "\r"))
        self.bad(1, DAY_TEXT.replace("\n", "|"))


if __name__ == "__main__":
    unittest.main()
