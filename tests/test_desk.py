"""14.1 and 14.2: a desk that works by lines."""

import random
import re
import unittest

from falsedays.alone import learning
from falsedays.chains import same_days
from falsedays.counting import many_days
from falsedays.desk import Desk
from falsedays.errors import (BadOffice, BadText, FalseError, NoDay, NoLine, NoName, NoNumber, NothingDone, OtherSizes,
                              TooMany)
from falsedays.live import Live
from falsedays.neighbours import enough, least_k
from falsedays.offices import is_true
from falsedays.proving import forging, indiscreet
from falsedays.reading import read_day, read_office
from falsedays.rules import read_rule
from falsedays.tales import seeing, unseen
from tests.helpers import (FORKED, HUNG_UP, LOAF, NEVER, NOBODY, SIXTY, SIXTY_ONE, all_days, echo_office, odd_things,
                           outcome, slow_true_days, small_offices)
from tests.texts import changed_lines, text_of, text_of_day

NAME = "([a-z]{1,8})"
NUMBER = "(0|[1-9][0-9]{0,8})"
TEXT = "([^\\n]+)"
FORMS = {"office": f"{NAME} {TEXT}", "rule": f"{NAME} {TEXT}", "drop": NAME, "names": "", "least": NAME,
         "enough": f"{NAME} {NUMBER}", "alone": NAME, "shows": NAME, "discreet": NAME, "many": f"{NAME} {NUMBER}",
         "true": f"{NAME} {TEXT}", "unseen": f"{NAME} {NUMBER} {TEXT}", "sees": f"{NAME} {TEXT}",
         "same": f"{NAME} {NAME}", "undo": ""}
RULE = "office 2 1 2|each|slip 1|hang 1|fi|close|end|"
TWO_LOAVES = "office 2 2 1\ncell gone 2\neach\ntell 1\nslip 1\nif gone 0\ntell 0\nput gone 1\nfi\nfi\nclose\nend\n"
BOTH = (((1, 0, 0), (1, 0, 0)), 0)


def lined(text):
    return text.replace("\n", "|")


def office_line(name, office):
    return f"office {name} {lined(text_of(office))}"


def yes(flag):
    return "yes" if flag else "no"


class SlowDesk:
    """A desk by the words of the document: it keeps all its tables, one for each change that can be taken back."""

    def __init__(self):
        self.tables = [{}]

    def named(self, name):
        if name not in self.tables[-1]:
            raise NoName(name)
        return self.tables[-1][name]

    def tell(self, line):
        word = line.split(" ")[0] if isinstance(line, str) else None
        if word not in FORMS:
            raise NoLine()
        found = re.fullmatch(f"{word} {FORMS[word]}" if FORMS[word] else word, line)
        if found is None:
            raise NoLine()
        return getattr(self, word)(*found.groups())

    def undoable(self):
        return len(self.tables) - 1

    def office(self, name, text):
        self.tables.append({**self.tables[-1], name: read_office(text.replace("|", "\n"))})
        return "ok"

    def rule(self, name, text):
        self.tables.append({**self.tables[-1], name: read_rule(text.replace("|", "\n"))})
        return "ok"

    def drop(self, name):
        self.named(name)
        self.tables.append({other: office for other, office in self.tables[-1].items() if other != name})
        return "ok"

    def names(self):
        return " ".join(sorted(self.tables[-1])) or "none"

    def least(self, name):
        k = least_k(self.named(name))
        return "none" if k is None else str(k)

    def enough(self, name, number):
        return yes(enough(self.named(name), int(number)))

    def alone(self, name):
        return yes(learning(self.named(name)) is None)

    def shows(self, name):
        return yes(forging(self.named(name)) is None)

    def discreet(self, name):
        return yes(indiscreet(self.named(name)) is None)

    def many(self, name, number):
        return str(many_days(self.named(name), int(number), 10 ** 30))

    def true(self, name, text):
        office = self.named(name)
        return yes(is_true(office, read_day(office, text.replace("|", "\n"))))

    def unseen(self, name, number, text):
        office = self.named(name)
        return yes(unseen(office, read_day(office, text.replace("|", "\n")), int(number)))

    def sees(self, name, text):
        office = self.named(name)
        lots = seeing(office, read_day(office, text.replace("|", "\n")))
        return " ".join(",".join(map(str, lot)) if lot else "-" for lot in lots) if lots else "none"

    def same(self, name, other_name):
        one, other = self.named(name), self.named(other_name)
        day = same_days(one, other)
        return "yes" if day is None else lined(text_of_day(day))

    def undo(self):
        if len(self.tables) == 1:
            raise NothingDone()
        self.tables.pop()
        return "ok"


def desk_with(**offices):
    desk = Desk()
    for name, office in offices.items():
        desk.tell(office_line(name, office))
    return desk


class TellTest(unittest.TestCase):
    def check(self, desk, *pairs):
        for line, right in pairs:
            told = desk.tell(line)
            self.assertIs(type(told), str)
            self.assertEqual(told, right, line)

    def test_own_words(self):
        desk = Desk()
        self.check(desk, ("names", "none"), (office_line("loaf", LOAF), "ok"), ("names", "loaf"),
                   (f"rule hung {RULE}", "ok"), ("names", "hung loaf"),
                   ("least loaf", "none"), ("least hung", "1"), ("enough loaf 1", "no"), ("enough loaf 200", "no"),
                   ("enough hung 1", "yes"), ("alone loaf", "no"), ("alone hung", "yes"), ("shows loaf", "no"),
                   ("shows hung", "yes"), ("discreet loaf", "yes"), ("discreet hung", "no"), ("many loaf 10", "1024"),
                   ("many loaf 0", "1"), ("many hung 999999999", str(pow(2, 999999999, 10 ** 30))),
                   ("true loaf step 1 0 0|step 1 1 0|last 0|", "yes"),
                   ("true loaf step 1 0 0|step 1 0 0|last 0|", "no"), ("true loaf last 0|", "yes"),
                   ("unseen loaf 1 step 1 0 0|step 1 0 0|last 0|", "yes"),
                   ("unseen loaf 2 step 1 0 0|step 1 0 0|last 0|", "no"),
                   ("unseen loaf 1 step 1 0 0|step 1 1 0|last 0|", "no"),
                   ("sees loaf step 1 0 0|step 1 0 0|last 0|", "0,1"),
                   ("sees loaf step 1 0 0|step 1 1 0|last 0|", "none"), ("sees hung last 1|", "-"),
                   ("sees hung step 0 0 1|last 0|", "0"), ("same loaf loaf", "yes"), ("drop loaf", "ok"),
                   ("names", "hung"), ("undo", "ok"), ("names", "hung loaf"))
        self.assertEqual(desk.undoable(), 2)

    def test_least_beyond_one(self):
        desk = desk_with(one=echo_office(1), two=echo_office(2), three=echo_office(3))
        self.check(desk, ("least one", "2"), ("least two", "3"), ("least three", "4"), ("enough three 3", "no"),
                   ("enough three 4", "yes"))

    def test_more_lots(self):
        desk = desk_with(loaf=LOAF)
        self.check(desk, ("sees loaf step 1 0 0|step 1 0 0|step 1 0 0|last 0|", "0,1 0,2 1,2"),
                   ("sees loaf step 1 0 0|step 0 0 0|step 1 0 0|last 0|", "0,2 1"),
                   ("sees loaf step 1 1 0|step 1 1 0|step 0 1 0|last 0|", "0"),
                   ("sees loaf step 0 1 0|step 1 1 0|step 0 1 0|last 0|", "0,1"))

    def test_same(self):
        desk = desk_with(loaf=LOAF, never=NEVER, nobody=NOBODY, hung=HUNG_UP)
        desk.tell("office all office 2 2 1|at 0|move 0 1 0 0|move 1 0 0 0|move 1 1 0 0|closes 0|")
        desk.tell(f"rule rule {lined(TWO_LOAVES)}")
        self.check(desk, ("same loaf loaf", "yes"), ("same loaf rule", "yes"), ("same rule loaf", "yes"),
                   ("same loaf all", "step 1 1 0|last 0|"), ("same all loaf", "step 1 1 0|last 0|"))
        desk.tell("office shut office 2 2 1|at 0|closes|")
        self.check(desk, ("same shut loaf", "last 0|"))
        for line in ("same loaf never", "same hung loaf"):
            self.assertRaises(OtherSizes, desk.tell, line)

    def test_texts_hold_what_was_kept(self):
        for office in [LOAF, HUNG_UP, NEVER, NOBODY, FORKED, SIXTY, echo_office(4)] + small_offices(30, 311):
            desk = desk_with(a=office)
            self.assertEqual(desk.tell("least a"), str(least_k(office) or "none"))
            self.assertEqual(desk.tell("many a 3"), str(many_days(office, 3, 10 ** 30)))

    def test_what_the_functions_tell(self):
        rng = random.Random(312)
        offices = [LOAF, HUNG_UP, NEVER, NOBODY, FORKED] + small_offices(50, 313)
        for office in offices:
            desk = desk_with(a=office, b=rng.choice(offices))
            other = SlowDesk()
            other.tables.append({"a": read_office(text_of(office))})
            for line in ("least a", "alone a", "shows a", "discreet a", "enough a 1", "enough a 3", "many a 5",
                         "many a 987654321"):
                self.assertEqual(desk.tell(line), other.tell(line))
            days = [day for many in range(3) for day in all_days(office, many)]
            true = [day for many in range(3) for day in slow_true_days(office, many)]
            for day in rng.sample(days, min(len(days), 8)) + rng.sample(true, min(len(true), 3)):
                text = lined(text_of_day(day))
                self.assertEqual(desk.tell(f"true a {text}"), yes(day in true))
                for k in (1, 2, 20):
                    self.assertEqual(desk.tell(f"unseen a {k} {text}"), yes(unseen(office, day, k)))
                self.assertEqual(desk.tell(f"sees a {text}"), other.tell(f"sees a {text}"))

    def test_names(self):
        desk = Desk()
        for name in ("b", "abcdefgh", "z", "a", "office", "none", "ab"):
            self.assertEqual(desk.tell(office_line(name, LOAF)), "ok")
        self.assertEqual(desk.tell("names"), "a ab abcdefgh b none office z")
        self.assertEqual(desk.tell("least office"), "none")
        for name in ("abcdefghi", "A", "a1", "", "a-b", "a_b", " a", "0"):
            for line in (office_line(name, LOAF), f"drop {name}", f"least {name}", f"same a {name}", f"same {name} a",
                         f"rule {name} {RULE}", f"enough {name} 1", f"true {name} last 0|", f"sees {name} last 0|",
                         f"unseen {name} 1 last 0|", f"many {name} 1", f"alone {name}", f"shows {name}",
                         f"discreet {name}"):
                self.assertRaises(NoLine, desk.tell, line)
        self.assertEqual(desk.tell("names"), "a ab abcdefgh b none office z")

    def test_numbers(self):
        desk = desk_with(a=LOAF)
        self.assertEqual(desk.tell("many a 123456789"), str(pow(2, 123456789, 10 ** 30)))
        for number in ("1234567890", "01", "-1", "+1", "1.0", "", "a", "1_0", "00", " 1"):
            for line in (f"many a {number}", f"enough a {number}", f"unseen a {number} last 0|"):
                self.assertRaises(NoLine, desk.tell, line)
        for number in ("0", "201", "999999999"):
            self.assertRaises(NoNumber, desk.tell, f"enough a {number}")
        for number in ("0", "21", "999999999"):
            self.assertRaises(NoNumber, desk.tell, f"unseen a {number} last 0|")

    def test_text_of_one_sign(self):
        desk = desk_with(a=LOAF)
        for line in ("office a x", "rule a x", "true a x", "sees a x", "unseen a 1 x", "office a  ", "true a  ",
                     "unseen a 1  ", "rule a \t"):
            with self.assertRaises(BadText) as caught:
                desk.tell(line)
            self.assertEqual(caught.exception.line, 1)
        for line in ("office a |", "rule a ||", "true a |x", "true a |"):
            with self.assertRaises(BadText) as caught:
                desk.tell(line)
            self.assertEqual(caught.exception.line, 1)
        for line in ("office a ", "rule a ", "true a ", "sees a ", "unseen a 1 ", "office a", "unseen a 1"):
            self.assertRaises(NoLine, desk.tell, line)

    def test_line_feeds(self):
        desk = desk_with(a=LOAF)
        for line in ("least a\n", "\nleast a", "\n", "true a last 0\n", "true a last 0|\n", "names\n", "undo\n",
                     "office b " + text_of(LOAF), f"rule b {TWO_LOAVES}", "least\na"):
            self.assertRaises(NoLine, desk.tell, line)
        self.assertEqual(desk.tell(f"rule b {lined(TWO_LOAVES)}"), "ok")
        # The last line feed is told, too.
        with self.assertRaises(BadText) as caught:
            desk.tell("true a last 0")
        self.assertEqual(caught.exception.line, 1)
        with self.assertRaises(BadText) as caught:
            desk.tell("true a step 1 0 0|last 0||")
        self.assertEqual(caught.exception.line, 3)


class WrongLinesTest(unittest.TestCase):
    def setUp(self):
        self.desk = desk_with(loaf=LOAF, hung=HUNG_UP)

    def unchanged(self, error, told, /, **fields):
        with self.assertRaises(error) as caught:
            self.desk.tell(told)
        self.assertEqual(vars(caught.exception), fields)
        self.assertEqual(self.desk.tell("names"), "hung loaf")
        self.assertEqual(self.desk.undoable(), 2)
        self.assertEqual(self.desk.tell("least hung"), "1")

    def test_no_lines(self):
        for thing in odd_things() + [b"names", ["names"], ("names",), {"names": 1}, 5, Desk(), Live(LOAF)]:
            self.unchanged(NoLine, thing)
        for line in ("", " ", "Names", "name", "names ", " names", "names none", "undo 1", "undo ", "least", "least ",
                     "least loaf ", "least  loaf", "least loaf loaf", "least\tloaf", "drop", "same loaf", "same loaf ",
                     "same loaf loaf loaf", "same loaf  loaf", "enough loaf", "enough loaf 1 1", "enough 1 loaf",
                     "many loaf", "many 5", "unseen loaf last 0|", "unseen loaf x last 0|", "true", "true loaf",
                     "drop loaf|", "office", "rule", "seeing loaf last 0|", "depth", "undoable", "names|"):
            self.unchanged(NoLine, line)

    def test_no_names(self):
        for line in ("drop x", "least x", "enough x 1", "alone x", "shows x", "discreet x", "many x 1", "true x last 0|",
                     "unseen x 1 last 0|", "sees x last 0|", "same x loaf", "same loaf x", "same x y"):
            self.unchanged(NoName, line, name="x")
        self.unchanged(NoName, "same y x", name="y")
        self.unchanged(NoName, "drop abcdefgh", name="abcdefgh")

    def test_order(self):
        # The form of the line ahead of the name, the name ahead of the text, the text ahead of the number.
        for line in ("enough x 01", "unseen x 01 last 0|", "true x ", "many x 1234567890"):
            self.unchanged(NoLine, line)
        for line in ("enough x 0", "unseen x 0 last 9|", "true x x", "sees x x", "many x 999999999", "same x hung"):
            self.unchanged(NoName, line, name="x")
        self.unchanged(OtherSizes, "same hung loaf")
        self.unchanged(BadText, "unseen loaf 0 last 0", line=1)
        self.unchanged(NoDay, "unseen loaf 0 last 1|")
        self.unchanged(NoDay, "unseen loaf 21 step 2 0 0|last 0|")
        self.unchanged(NoNumber, "unseen loaf 21 step 1 0 0|last 0|")
        self.unchanged(NoDay, "true loaf step 2 0 0|last 0|")
        self.unchanged(NoDay, "sees loaf last 1|")
        self.unchanged(BadText, "sees loaf " + "step 1 0 0|" * 9, line=10)
        self.unchanged(NoDay, "sees loaf " + "step 1 0 0|" * 9 + "last 1|")
        self.unchanged(TooMany, "sees loaf " + "step 1 0 0|" * 9 + "last 0|", most=8)

    def test_offices_and_rules(self):
        for name in ("loaf", "new"):
            self.unchanged(BadText, f"office {name} office 2 2 1|at 1|", line=2)
            self.unchanged(BadText, f"office {name} {RULE}", line=2)
            self.unchanged(BadOffice, f"office {name} office 2 2 5|at 0|closes|", part="sizes")
            self.unchanged(BadOffice, f"office {name} office 2 2 1|at 0|move 0 0 1 0|closes|", part="moves")
            self.unchanged(BadOffice, f"office {name} office 2 2 1|at 0|closes 1|", part="closings")
            self.unchanged(BadText, f"rule {name} office 2 2 5|each|close|end|", line=1)
            self.unchanged(BadText, f"rule {name} office 2 2 1|each|close|", line=4)
            many = "office 2 1 1|cell a 5|cell b 5|each|choose|add a 1|or|add b 1|done|close|end|"
            self.unchanged(TooMany, f"rule {name} {many}", most=20)
            self.unchanged(BadText, f"rule {name} {lined(text_of(LOAF))}", line=2)

    def test_too_many(self):
        desk = desk_with(a=SIXTY_ONE, b=SIXTY)
        for line in ("least a", "enough a 1", "alone a", "many a 5", "same a b", "same b a"):
            with self.assertRaises(TooMany) as caught:
                desk.tell(line)
            self.assertEqual(caught.exception.most, 60)
        for line, right in (("shows a", yes(forging(SIXTY_ONE) is None)), ("names", "a b"), ("true a last 0|", "yes"),
                            ("discreet a", yes(indiscreet(SIXTY_ONE) is None)), ("unseen a 1 last 0|", "no"),
                            ("sees a last 1|", "-"), ("least b", str(least_k(SIXTY) or "none"))):
            self.assertEqual(desk.tell(line), right)
        self.assertRaises(NoNumber, desk.tell, "enough a 0")

    def test_changed_lines(self):
        desk, other = Desk(), SlowDesk()
        lines = [office_line("a", HUNG_UP), f"rule b {RULE}", "names", "least a", "enough a 2", "alone a", "shows a",
                 "discreet b", "many a 12", "true a step 1 0 1|last 0|", "unseen a 2 step 1 0 1|last 1|",
                 "sees b step 1 0 0|last 0|", "same a b", "drop a", "undo"]
        told = {}
        for line in lines:
            for changed in [line] + changed_lines(line):
                right = outcome(other.tell, changed)
                self.assertEqual(outcome(desk.tell, changed), right, changed)
                told[right] = True
                if other.undoable() > 6:
                    for _ in range(5):
                        self.assertEqual(desk.tell("undo"), other.tell("undo"))
                self.assertEqual(desk.undoable(), other.undoable())
                self.assertEqual(desk.tell("names"), other.tell("names"))
        for error in (NoLine, NoName, BadText, BadOffice, NoDay, NoNumber, NothingDone):
            self.assertTrue(any(isinstance(right, tuple) and right[0] is error for right in told), error)


class UndoTest(unittest.TestCase):
    def test_own_words(self):
        desk = Desk()
        self.assertRaises(NothingDone, desk.tell, "undo")
        self.assertEqual(desk.undoable(), 0)
        desk.tell(office_line("a", LOAF))
        desk.tell(office_line("a", HUNG_UP))
        self.assertEqual((desk.undoable(), desk.tell("least a")), (2, "1"))
        self.assertEqual(desk.tell("undo"), "ok")
        self.assertEqual((desk.undoable(), desk.tell("least a")), (1, "none"))
        self.assertEqual(desk.tell("drop a"), "ok")
        self.assertEqual((desk.undoable(), desk.tell("names")), (2, "none"))
        self.assertRaises(NoName, desk.tell, "drop a")
        self.assertEqual(desk.undoable(), 2)
        desk.tell(f"rule a {RULE}")
        self.assertEqual((desk.tell("undo"), desk.tell("names"), desk.undoable()), ("ok", "none", 2))
        self.assertEqual((desk.tell("undo"), desk.tell("least a"), desk.undoable()), ("ok", "none", 1))
        self.assertEqual((desk.tell("undo"), desk.tell("names"), desk.undoable()), ("ok", "none", 0))
        self.assertRaises(NothingDone, desk.tell, "undo")
        self.assertEqual(desk.undoable(), 0)

    def test_a_rule_in_the_place_of_an_office(self):
        desk = desk_with(a=LOAF)
        desk.tell(f"rule a {RULE}")
        self.assertEqual(desk.tell("least a"), "1")
        desk.tell("undo")
        self.assertEqual(desk.tell("least a"), "none")

    def test_questions_are_not_taken_back(self):
        desk = desk_with(a=LOAF)
        for line in ("names", "least a", "enough a 1", "alone a", "shows a", "discreet a", "many a 1", "true a last 0|",
                     "unseen a 1 last 0|", "sees a last 0|", "same a a"):
            desk.tell(line)
            self.assertEqual(desk.undoable(), 1)
        desk.tell("undo")
        self.assertEqual((desk.undoable(), desk.tell("names")), (0, "none"))

    def test_any_order(self):
        rng = random.Random(314)
        offices = [LOAF, HUNG_UP, NOBODY, NEVER, FORKED]
        for _ in range(40):
            desks = [(Desk(), SlowDesk()) for _ in range(2)]
            for _ in range(60):
                name, other_name = rng.choice("abc"), rng.choice("abc")
                line = rng.choice([office_line(name, rng.choice(offices)), f"rule {name} {RULE}", f"drop {name}",
                                   f"drop {name}", "undo", "undo", "undo", f"least {name}", f"same {name} {other_name}",
                                   f"office {name} x", f"rule {name} x", "names", "x", f"many {name} 3"])
                desk, other = rng.choice(desks)
                self.assertEqual(outcome(desk.tell, line), outcome(other.tell, line))
                for told, right in desks:
                    self.assertEqual(told.undoable(), right.undoable())
                    self.assertEqual(told.tell("names"), right.tell("names"))
                    for kept in right.tables[-1]:
                        self.assertEqual(told.tell(f"many {kept} 4"), right.tell(f"many {kept} 4"))

    def test_two_desks(self):
        one, other = Desk(), Desk()
        one.tell(office_line("a", LOAF))
        self.assertEqual((one.tell("names"), other.tell("names")), ("a", "none"))
        other.tell(office_line("a", HUNG_UP))
        other.tell("drop a")
        self.assertEqual((one.undoable(), other.undoable(), one.tell("least a")), (1, 2, "none"))
        one.tell("undo")
        self.assertEqual((one.undoable(), other.undoable()), (0, 2))
        other.tell("undo")
        self.assertEqual(other.tell("least a"), "1")
        self.assertFalse(one == other)
        for thing in odd_things() + [{}, Live(LOAF)]:
            self.assertFalse(one == thing)
            self.assertTrue(one != thing)

    def test_methods(self):
        self.assertLessEqual({"tell", "undoable"}, set(vars(Desk)))
        self.assertRaises(FalseError, Desk().tell, None)


if __name__ == "__main__":
    unittest.main()
