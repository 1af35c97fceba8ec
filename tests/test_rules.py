"""11.1 and 11.2: rules in words, and their offices."""

import random
import unittest
from itertools import product

from falsedays.errors import BadText, FalseError, TooMany
from falsedays.offices import Office, is_true, true_days
from falsedays.rules import read_rule
from tests.helpers import HUNG_UP, LOAF, slow_true_days
from tests.slow_rules import Slow, slow_bad_line
from tests.texts import changed_texts, no_strings

HUNG_UP_RULE = "office 2 1 2\neach\nslip 1\nhang 1\nfi\nclose\nend\n"
LOAF_RULE = ("office 2 2 1\ncell gone 2\neach\ntell 1\nslip 1\nif gone 0\ntell 0\nput gone 1\nfi\nfi\n"
             "close\nend\n")
MANY_FORMS = ("office 3 2 2\ncell a 2\ncell bb 3\neach\nslip 2\nchoose\nput a 1\nor\nadd bb 2\nhang 1\nor\ndone\nelse\n"
              "if bb 1\ntell 1\nelse\nadd a 1\nfi\nfi\nclose\nif a 1\nhang 1\nfi\n"
              "choose\nor\nif bb 2\nhang 0\nfi\ndone\nend\n")


def rule(each="", close="", head="office 2 2 2\ncell a 3\ncell b 2\n"):
    """A rule with some deeds, parted by commas."""
    return head + "each\n" + lines_of(each) + "close\n" + lines_of(close) + "end\n"


def lines_of(text):
    return "".join(line.strip() + "\n" for line in text.split(",") if line.strip())


def slow_outcome(text):
    line = slow_bad_line(text)
    if line is not None:
        return BadText, (line,)
    parts = Slow(text).office()
    return (TooMany, (20,)) if parts is None else parts


def outcome(text):
    try:
        office = read_rule(text)
    except FalseError as error:
        return type(error), tuple(vars(error).values())
    return office.sizes, office.moves, office.closings


def random_deeds(rng, part, sizes, cells, deep):
    """A few lines of deeds."""
    out = []
    for _ in range(rng.choice([0, 1, 1, 2, 3])):
        word = rng.choice(["put", "add", "tell", "hang", "if", "slip", "choose", "choose"])
        if word in ("put", "add", "if") and not cells or word in ("tell", "slip") and part == "close":
            continue
        line = [word]
        if word in ("put", "add", "if"):
            name = rng.choice(sorted(cells))
            line += [name, str(rng.randrange(cells[name]))]
        elif word != "choose":
            line.append(str(rng.randrange(sizes[{"slip": 0, "tell": 1, "hang": 2}[word]])))
        if word in ("if", "slip", "choose"):
            if deep == 0:
                continue
            out.append(" ".join(line))
            out += random_deeds(rng, part, sizes, cells, deep - 1)
            for _ in range(rng.randint(1, 2) if word == "choose" else rng.randrange(2)):
                out.append("or" if word == "choose" else "else")
                out += random_deeds(rng, part, sizes, cells, deep - 1)
            out.append("done" if word == "choose" else "fi")
        else:
            out.append(" ".join(line))
    return out


def random_rule(rng, deep=3):
    sizes = [rng.randint(1, 4) for _ in range(3)]
    names = rng.sample(["a", "b", "gone", "each", "if", "abcdefgh", "office", "z"], rng.randint(0, 4))
    cells = {name: rng.choice([1, 2, 2, 3, 6]) for name in names}
    lines = ["office " + " ".join(map(str, sizes))] + [f"cell {name} {cells[name]}" for name in names] + ["each"]
    lines += random_deeds(rng, "each", sizes, cells, deep) + random_deeds(rng, "each", sizes, cells, deep) + ["close"]
    lines += random_deeds(rng, "close", sizes, cells, deep) + ["end"]
    return "".join(line + "\n" for line in lines)


class RuleTest(unittest.TestCase):
    def same(self, text):
        self.assertEqual(outcome(text), slow_outcome(text), text)

    def bad(self, line, text):
        self.assertEqual(slow_bad_line(text), line)
        with self.assertRaises(BadText) as caught:
            read_rule(text)
        self.assertEqual(caught.exception.line, line)

    def test_e15(self):
        self.assertTrue(read_rule(HUNG_UP_RULE) == HUNG_UP)

    def test_own_words(self):
        office = read_rule(LOAF_RULE)
        self.assertIsInstance(office, Office)
        self.assertTrue(office == Office(LOAF.sizes, LOAF.moves, ((0,), (0,))))
        self.assertEqual(slow_outcome(MANY_FORMS)[0], (3, 2, 2))
        self.same(MANY_FORMS)
        self.assertEqual(outcome("office 1 1 1\neach\nclose\nend\n"), ((1, 1, 1), (((0, 0, 0, 0),),), ((0,),)))

    def test_random_rules(self):
        rng = random.Random(141)
        found = {"office": 0, "many": 0, "chosen": 0}
        for _ in range(1500):
            text = random_rule(rng)
            self.assertIsNone(slow_bad_line(text), text)
            right = slow_outcome(text)
            self.assertEqual(outcome(text), right, text)
            found["many" if right == (TooMany, (20,)) else "office"] += 1
            found["chosen"] += right != (TooMany, (20,)) and any(len(row) > right[0][0] for row in right[1])
        self.assertGreater(min(found.values()), 20)

    def test_numbers_of_standings(self):
        # They are numbered by slips, then answers, then marks, and only then by the values of the cells.
        text = rule("slip 0, choose, tell 1, put b 1, or, put a 2, or, hang 1, put a 1, done, fi")
        self.assertEqual(read_rule(text).moves[0], ((0, 0, 0, 1), (0, 0, 1, 2), (0, 1, 0, 3), (1, 0, 0, 0)))
        self.same(text)
        # Of one step the lesser values come ahead; the first cell counts most.
        text = rule("choose, put b 1, or, put a 2, or, put a 1, done")
        self.assertEqual(read_rule(text).moves[0][:3], ((0, 0, 0, 1), (0, 0, 0, 2), (0, 0, 0, 3)))
        self.assertEqual([move[3] for move in read_rule(text).moves[1] if move[0] == 0],
                         [1, 4, 5])
        self.same(text)

    def test_deeds(self):
        for each in ("put a 2", "add a 1", "add a 2", "add b 1, add b 1", "put a 2, add a 2", "tell 1", "hang 1",
                     "tell 1, tell 0", "hang 1, hang 0", "add a 0", "if a 0, put a 1, else, put a 2, fi",
                     "if a 0, fi, add a 1", "if a 1, hang 1, fi, put a 1", "slip 0, tell 1, else, hang 1, fi",
                     "slip 1, else, tell 1, fi", "choose, or, done", "choose, add a 1, or, add b 1, or, tell 1, done",
                     "choose, put a 1, or, put a 1, done, if a 1, hang 1, fi", "if a 0, else, fi"):
            for close in ("", "hang 1", "if a 2, hang 1, fi", "choose, hang 1, or, done", "put a 1, if a 1, hang 1, fi",
                          "add b 1, if b 1, hang 1, else, choose, or, hang 1, done, fi"):
                self.same(rule(each, close))

    def test_each_comer_begins_anew(self):
        # Answers and marks are not kept, nor do the deeds at closing change the cells.
        office = read_rule(rule("slip 0, tell 1, hang 1, fi", "if a 0, hang 1, fi, put a 1"))
        self.assertEqual(office.moves, (((0, 1, 1, 0), (1, 0, 0, 0)),))
        self.assertEqual(office.closings, ((1,),))

    def test_true_days(self):
        office = read_rule(rule("tell 0, if b 0, choose, put b 1, or, done, else, tell 1, fi", "if b 1, hang 1, fi"))
        self.assertEqual(true_days(office, 2), slow_true_days(office, 2))
        self.assertIs(is_true(office, (((0, 0, 0), (1, 1, 0)), 1)), True)
        self.assertIs(is_true(office, (((0, 0, 0), (1, 1, 0)), 0)), False)

    def test_sizes(self):
        for size in range(1, 5):
            for at in range(3):
                sizes = [1, 1, 1]
                sizes[at] = size
                text = rule(head="office " + " ".join(map(str, sizes)) + "\n")
                self.assertEqual(read_rule(text).sizes, tuple(sizes))
        for sizes in ("0 1 1", "5 1 1", "1 0 1", "1 5 1", "1 1 0", "1 1 5", "1 1", "1 1 1 1", "01 1 1", "1 +1 1",
                      "1 1 -1", "1  1 1", "1 1 1 ", "a 1 1", "1 1 11", "1 1 1\t", ""):
            self.bad(1, rule(head="office " + sizes + "\n"))

    def test_cells(self):
        for size in range(1, 7):
            head = f"office 1 1 1\ncell a {size}\n"
            self.assertEqual(len(read_rule(rule("add a 1" if size > 1 else "", head=head)).moves), size)
            self.assertEqual(len(read_rule(rule(f"put a {size - 1}", head=head)).moves), min(size, 2))
            for deed in ("put", "add", "if"):
                self.bad(4, rule(f"{deed} a {size}", head=head))
        for size in ("0", "7", "9", "10", "02", "+2", "-1", "a", "", "2 2"):
            self.bad(2, rule(head=f"office 1 1 1\ncell a {size}\n"))
        for name in ("", "A", "abcdefghi", "a1", "a_b", "1", "a b", "a.b", "aB", "-"):
            self.bad(2, rule(head=f"office 1 1 1\ncell {name} 2\n"))
        for name in ("a", "abcdefgh", "zzzzzzzz", "cell", "office", "each", "close", "end", "put", "if", "fi", "or"):
            text = rule(f"if {name} 0, add {name} 1, fi", head=f"office 1 1 1\ncell {name} 2\n")
            self.assertEqual(len(read_rule(text).moves), 2)
            self.same(text)
        four = "office 1 1 1\n" + "".join(f"cell {name} 2\n" for name in "abcd")
        self.assertEqual(len(read_rule(rule("put d 1", head=four)).moves), 2)
        self.bad(6, rule(head=four + "cell e 2\n"))
        self.bad(4, rule(head="office 1 1 1\ncell a 2\ncell b 2\ncell a 2\n"))
        self.bad(3, rule(head="office 1 1 1\ncell a 2\ncell a 3\n"))
        self.bad(5, rule("put c 0"))
        self.bad(5, rule("if aa 0, fi"))
        self.bad(6, rule("", "add c 0"))

    def test_where_lines_cannot_stand(self):
        self.bad(5, rule("else"))
        self.bad(5, rule("fi"))
        self.bad(5, rule("or"))
        self.bad(5, rule("done"))
        self.bad(6, rule("choose, done"))
        self.bad(7, rule("choose, tell 1, done"))
        self.bad(6, rule("choose, fi"))
        self.bad(6, rule("choose, else"))
        self.bad(7, rule("choose, or, fi"))
        self.bad(6, rule("if a 0, or"))
        self.bad(6, rule("if a 0, done"))
        self.bad(7, rule("if a 0, else, else, fi"))
        self.bad(7, rule("slip 0, else, else, fi"))
        self.bad(6, rule("slip 0, or"))
        self.bad(7, rule("if a 0, choose, fi"))
        self.bad(6, rule("if a 0"))
        self.bad(6, rule("choose"))
        self.bad(7, rule("choose, or"))
        self.bad(6, rule("slip 0"))
        self.bad(6, rule("", "tell 0"))
        self.bad(6, rule("", "slip 0, fi"))
        self.bad(7, rule("", "if a 0, tell 0, fi"))
        self.bad(7, rule("", "if a 0"))
        self.bad(5, rule("end"))
        self.bad(5, rule("each"))
        self.bad(6, rule("close"))
        self.bad(5, rule("cell c 2"))
        self.bad(5, rule("office 1 1 1"))
        self.bad(2, "office 1 1 1\nclose\nend\n")
        self.bad(2, "office 1 1 1\noffice 1 1 1\neach\nclose\nend\n")
        self.bad(2, "office 1 1 1\ntell 0\neach\nclose\nend\n")
        self.bad(1, "each\nclose\nend\n")
        self.bad(1, "cell a 2\noffice 1 1 1\neach\nclose\nend\n")
        self.bad(3, "office 1 1 1\neach\nend\n")
        for line in ("", "end", "each", "office 1 1 1", "tell 0", " "):
            self.bad(5, "office 1 1 1\neach\nclose\nend\n" + line + "\n")

    def test_numbers_of_deeds(self):
        deeds = (("tell", 1), ("hang", 1), ("slip", 1), ("put a", 2), ("add a", 2), ("if a", 2), ("put b", 1))
        for deed, most in deeds:
            for number in range(most + 1):
                text = rule(f"{deed} {number}" + (", fi" if deed[0] in "si" else ""))
                self.same(text)
                self.assertIsInstance(read_rule(text), Office)
            for number in (str(most + 1), "9", "00", "01", "+1", "-1", "1.", "10", "a", "", "1 1", "0 0"):
                self.bad(5, rule(f"{deed} {number}"))
            self.bad(5, rule(deed + "\t0"))

    def test_what_is_lacking_and_what_stands_behind(self):
        self.bad(1, "")
        self.bad(1, "office 1 1 1")
        self.bad(2, "office 1 1 1\n")
        self.bad(3, "office 1 1 1\neach\n")
        self.bad(4, "office 1 1 1\neach\nclose\n")
        self.bad(4, "office 1 1 1\neach\nclose\nend")
        self.bad(5, "office 1 1 1\neach\nclose\nend\nx")
        self.bad(5, "office 1 1 1\neach\nclose\nend\n ")
        self.bad(6, "office 1 1 1\neach\nchoose\nor\ntell 0\n")

    def test_no_string(self):
        for thing in no_strings():
            with self.assertRaises(BadText) as caught:
                read_rule(thing)
            self.assertEqual(caught.exception.line, 0)

    def test_changed_texts(self):
        seen = set()
        for text in (HUNG_UP_RULE, LOAF_RULE, MANY_FORMS):
            for other in changed_texts(text):
                right = slow_outcome(other)
                self.assertEqual(outcome(other), right, other)
                seen.add(right if right[0] is BadText else "other")
        self.assertTrue({(BadText, (line,)) for line in range(1, MANY_FORMS.count("\n") + 2)} | {"other"} <= seen)

    def test_changed_random_rules(self):
        rng = random.Random(142)
        for _ in range(25):
            texts = changed_texts(random_rule(rng, 4))
            for text in rng.sample(texts, 150):
                self.assertEqual(outcome(text), slow_outcome(text), text)

    def test_eight_and_nine_deep(self):
        for word, end in (("if a 0", "fi"), ("slip 0", "fi"), ("choose", "or\ndone")):
            for deep in (7, 8):
                self.same(rule(",".join([word] * deep + ["tell 1", "put a 1"] + end.split("\n") * deep)))
                self.assertIsInstance(read_rule(rule(",".join([word] * deep + end.split("\n") * deep))), Office)
            for deep in (9, 10, 40):
                self.bad(13, rule(",".join([word] * deep + end.split("\n") * deep)))
        self.bad(14, rule("", ",".join(["choose"] * 9)))
        # Mixed ones count together; what is closed counts no more.
        mixed = ["if a 0", "slip 1", "choose", "if b 1", "choose", "slip 0", "if a 2", "choose"]
        ends = ["or", "done", "fi", "fi", "or", "done", "else", "fi", "or", "done", "fi", "fi"]
        self.same(rule(",".join(mixed + ends)))
        self.same(rule(",".join(mixed + ["or", "done", "choose", "add a 1"] + ends)))
        self.bad(13, rule(",".join(mixed + ["choose"] + ends)))
        self.bad(14, rule(",".join(mixed + ["or", "if a 0"] + ends)))

    def test_many_chooses(self):
        for many in (1, 20, 60):
            each = ", ".join(["choose, add a 1, or, add b 1, or, done"] * many)
            self.same(rule(each, each))
            self.assertEqual(len(read_rule(rule(each)).moves), 6)
        # All values of four cells of six are met on the way, but few at the end.
        head = "office 1 1 1\n" + "".join(f"cell {name} 6\n" for name in "abcd")
        each = ", ".join(["choose, add a 1, or, add b 1, or, add c 1, or, add d 1, done"] * 60)
        office = read_rule(rule(each + ", put a 0, put b 0, put c 0, choose, put d 3, or, put d 5, done", head=head))
        self.assertEqual(office.moves, (((0, 0, 0, 1), (0, 0, 0, 2)),) * 3)
        self.assertEqual(outcome(rule(each, head=head)), (TooMany, (20,)))

    def test_20_and_21_standings(self):
        head = "office 1 1 1\ncell a 4\ncell b 5\ncell c 2\n"
        twenty = "add a 1, add b 1"
        self.assertEqual(len(read_rule(rule(twenty, head=head)).moves), 20)
        self.same(rule(twenty, head=head))
        more = "if a 3, if b 4, put c 1, fi, fi, if c 0, add a 1, add b 1, fi"
        self.assertEqual(len(Slow(rule(more, head=head)).office() or [()] * 3), 3)
        self.assertEqual(outcome(rule(more, head=head)), (TooMany, (20,)))
        self.assertEqual(outcome(rule("choose, add a 1, or, add b 1, or, put c 1, done", head=head)), (TooMany, (20,)))
        # Standings that nothing leads to do not count, nor do those that the deeds pass through.
        self.assertEqual(len(read_rule(rule("add a 1, add b 1, add c 1, put a 0, put b 0", head=head)).moves), 2)
        # Wrong lines come ahead of too many standings.
        self.bad(22, rule("choose, add a 1, or, add b 1, or, put c 1, done", "hang 0, " * 8 + "tell 0", head=head))

    def test_7999_to_8001_lines(self):
        for filler in ("tell 1", "add a 1", "choose\nor\ndone"):
            size = len(filler.split("\n"))
            for many in (7999, 8000, 8001, 8002, 8100):
                count = many - 6
                text = rule(",".join(filler.split("\n") * (count // size) + ["hang 0"] * (count % size)))
                self.assertEqual(text.count("\n"), many)
                if many <= 8000:
                    self.assertIsInstance(read_rule(text), Office)
                else:
                    self.bad(8001, text)
        text = rule(",".join(["tell 0"] * 7994))
        self.assertEqual(text.count("\n"), 8000)
        self.bad(8001, text + "end\n")
        self.bad(8001, text + "x")
        self.bad(8000, text[:-1])
        self.bad(8000, text.replace("end\n", "\n"))
        self.bad(8001, text.replace("end\n", "hang 0\n"))
        self.bad(8000, text.replace("end\n", ""))
        self.bad(7, text.replace("tell 0\n" * 3, "tell 0\ntell 0\nsell 0\n", 1) + "end\n")

    def test_all_words_of_small_rules(self):
        # All rows of four lines behind each, closed or not.
        words = ["tell 1", "if a 1", "slip 0", "else", "fi", "choose", "or", "done", "close"]
        for row in product(words, repeat=4):
            self.same("office 1 2 1\ncell a 2\neach\n" + "".join(line + "\n" for line in row) + "close\nend\n")


if __name__ == "__main__":
    unittest.main()
