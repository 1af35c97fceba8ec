"""13.1: offices and days that are written as texts, and read back."""

import unittest

from falsedays.chains import chained
from falsedays.errors import BadOffice, BadText, NoDay
from falsedays.offices import Office, some_true, true_days
from falsedays.reading import read_day, read_office
from falsedays.texts import day_text, office_text
from tests.helpers import (FORKED, HUNG_UP, LOAF, NEVER, NOBODY, SIXTY, SIXTY_ONE, all_days, clock_office, echo_office,
                           small_offices, wide_office)
from tests.texts import text_of, text_of_day

NAMED = [LOAF, HUNG_UP, NOBODY, NEVER, FORKED, SIXTY, SIXTY_ONE, echo_office(4)]
# No standing leads on, and none closes.
SILENT = [Office((4, 3, 2), ((),) * many, ((),) * many) for many in (1, 2, 11, 20)]


def returned_offices():
    """Offices that were returned, with sizes beyond 4 or with more standings than the constructor takes."""
    long_chain = chained(LOAF, chained(LOAF, chained(LOAF, LOAF)))
    rows = tuple(((at % 6, 10, 4, (at + 7) % 120),) for at in range(119)) + ((),)
    return [chained(LOAF, LOAF), long_chain, chained(echo_office(3), echo_office(4)),
            wide_office((12, 11, 105), rows, ((),) * 119 + ((0, 9, 10, 99, 100, 104),))]


class OfficeTextTest(unittest.TestCase):
    def test_own_words(self):
        self.assertEqual(office_text(LOAF), "office 2 2 1\nat 0\nmove 0 1 0 0\nmove 1 0 0 1\ncloses 0\n"
                                            "at 1\nmove 0 1 0 1\nmove 1 1 0 1\ncloses 0\n")
        self.assertEqual(office_text(HUNG_UP), "office 2 1 2\nat 0\nmove 0 0 0 0\nmove 1 0 1 0\ncloses 0\n")
        self.assertEqual(office_text(NOBODY), "office 1 1 1\nat 0\ncloses 0\n")
        self.assertEqual(office_text(NEVER), "office 2 1 1\nat 0\nmove 0 0 0 0\nmove 1 0 0 0\ncloses\n")
        self.assertEqual(office_text(Office((4, 3, 2), ((), ()), ((), (0, 1)))),
                         "office 4 3 2\nat 0\ncloses\nat 1\ncloses 0 1\n")

    def test_read_back(self):
        for office in NAMED + SILENT + small_offices(150, 301, 6):
            text = office_text(office)
            self.assertIs(type(text), str)
            self.assertEqual(text, text_of(office))
            self.assertTrue(read_office(text) == office)
            self.assertEqual(office_text(read_office(text)), text)

    def test_most_of_all(self):
        steps = [(slip, answer, mark) for slip in range(4) for answer in range(4) for mark in range(4)]
        row = tuple(step + (goal,) for step in steps for goal in range(20))
        office = Office((4, 4, 4), (row,) * 20, ((0, 1, 2, 3),) * 20)
        text = office_text(office)
        self.assertEqual(text.count("\n"), 1 + 20 * (1 + 1280 + 1))
        self.assertTrue(read_office(text) == office)
        for many in (1, 20):
            office = Office((1, 1, 1), ((),) * many, ((),) * many)
            text = "office 1 1 1\n" + "".join(f"at {at}\ncloses\n" for at in range(many))
            self.assertEqual(office_text(office), text)
            self.assertTrue(read_office(text) == office)

    def test_returned_offices(self):
        for office in returned_offices():
            text = office_text(office)
            self.assertEqual(text, text_of(office))
            if max(office.sizes) > 4 or len(office.moves) > 20:
                with self.assertRaises(BadOffice) as caught:
                    read_office(text)
                self.assertEqual(caught.exception.part, "sizes" if max(office.sizes) > 4 else "moves")
            else:
                self.assertTrue(read_office(text) == office)
        self.assertEqual(office_text(returned_offices()[0]).split("\n")[:3], ["office 2 4 1", "at 0", "move 0 2 0 1"])
        self.assertIn("at 118\nmove 4 10 4 5\ncloses\nat 119\ncloses 0 9 10 99 100 104\n",
                      office_text(returned_offices()[3]))
        self.assertEqual([max(office.sizes) > 4 for office in returned_offices()], [False, True, False, True])
        self.assertEqual([len(office.moves) > 20 for office in returned_offices()], [False, False, True, True])

    def test_office_stays(self):
        office = Office(LOAF.sizes, LOAF.moves, LOAF.closings)
        self.assertEqual(office_text(office), office_text(office))
        self.assertEqual(vars(office), vars(LOAF))


class DayTextTest(unittest.TestCase):
    def test_own_words(self):
        self.assertEqual(day_text(((), 0)), "last 0\n")
        self.assertEqual(day_text((((1, 0, 2),), 3)), "step 1 0 2\nlast 3\n")
        self.assertEqual(day_text((((1, 0, 0), (0, 1, 0)), 0)), "step 1 0 0\nstep 0 1 0\nlast 0\n")

    def test_read_back(self):
        for office in NAMED[:5] + small_offices(40, 302):
            for many in range(3):
                for day in all_days(office, many):
                    self.assertEqual(day_text(day), text_of_day(day))
                    self.assertEqual(read_day(office, day_text(day)), day)
        for office in NAMED + small_offices(60, 303):
            for many in (5, 30, 200):
                day = some_true(office, many)
                if day is not None:
                    self.assertEqual(read_day(office, day_text(day)), day)

    def test_days_of_returned_offices(self):
        for office in returned_offices()[:3]:
            for day in true_days(office, 3):
                self.assertEqual(read_day(office, day_text(day)), day)
        office = returned_offices()[3]
        day = (((11, 10, 104), (0, 0, 99)), 100)
        self.assertEqual(day_text(day), "step 11 10 104\nstep 0 0 99\nlast 100\n")
        self.assertEqual(read_day(office, day_text(day)), day)
        long_day = (((1, 0, 1),) * 1000, 2)
        self.assertEqual(read_day(clock_office(15, 14), day_text(long_day)), long_day)

    def test_any_numbers(self):
        # A day is written whatever its numbers; only some are read back.
        day = (((10 ** 39, 0, 123456789), (7, 10 ** 40 - 1, 0)), 1234567890)
        self.assertEqual(day_text(day), f"step 1{'0' * 39} 0 123456789\nstep 7 {'9' * 40} 0\nlast 1234567890\n")
        self.assertEqual(day_text(day), text_of_day(day))
        self.assertRaises(BadText, read_day, LOAF, day_text(day))
        self.assertRaises(NoDay, read_day, LOAF, day_text((((9, 9, 9),), 999999999)))
        with self.assertRaises(BadText) as caught:
            read_day(LOAF, day_text((((1, 0, 0),), 10 ** 9)))
        self.assertEqual(caught.exception.line, 2)


if __name__ == "__main__":
    unittest.main()
