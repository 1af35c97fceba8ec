"""What the tests of texts share: texts by the document, texts with one spot changed, things that are no texts."""

from tests.helpers import odd_things

OTHER_WORDS = """-1 00 01 1 2 3 4 5 6 7 9 10 a aa cc zz 1_0 1.0 0x1 123456789 1234567890 999999999 1000000000
A abcdefgh abcdefghi put add tell hang if slip choose else or fi done each close end cell office at move closes step
last""".split()
OTHER_LINES = ["fi", "done", "else", "or", "choose", "each", "close", "end", "hang 0", "tell 0", "slip 0", "put a 0",
               "if a 0", "cell q 2", "office 1 1 1", "at 0", "at 1", "closes", "closes 0", "move 0 0 0 0", "last 0",
               "step 0 0 0"]


def text_of(office):
    """The text of an office by the words of 13.1."""
    lines = ["office " + " ".join(map(str, office.sizes))]
    for at, (moves, lasts) in enumerate(zip(office.moves, office.closings)):
        lines.append(f"at {at}")
        lines += ["move " + " ".join(map(str, move)) for move in moves]
        lines.append(" ".join(["closes"] + [str(mark) for mark in lasts]))
    return "".join(line + "\n" for line in lines)


def text_of_day(day):
    return "".join(f"step {slip} {answer} {mark}\n" for slip, answer, mark in day[0]) + f"last {day[1]}\n"


def no_strings():
    """Things that are no strings."""
    return [thing for thing in odd_things() if not isinstance(thing, str)] + [["office 1 1 1\n"], ("last 0\n",), 7]


def changed_lines(line):
    """A line with one spot changed, in many ways."""
    words = line.split(" ")
    out = ["", " ", "#", "0", words[0], line + " ", " " + line, line + "\t", line + " 0", line + " a", line + " 0 0",
           line + " 00", line + "x", "x" + line, line[:-1], line[1:], line.upper(), line + "\r", line + ".", line + ",",
           line.replace(" ", "  ", 1), line.replace(" ", "\t"), line.replace(" ", ","), "'" + line + "'"]
    for at, word in enumerate(words):
        out.append(" ".join(words[:at] + words[at + 1:]))
        out.append(" ".join(words[:at + 1] + words[at:]))
        out.append(" ".join(words[:at] + words[at + 1:at + 2] + [word] + words[at + 2:]))
        for other in OTHER_WORDS + ["", "0" + word, "+" + word, "-" + word, word + "0"]:
            out.append(" ".join(words[:at] + [other] + words[at + 1:]))
    return out


def closed(lines):
    return "".join(line + "\n" for line in lines)


def changed_texts(text):
    """A text with a line, or its end, changed in many ways."""
    lines = text.split("\n")[:-1]
    out = ["", "\n", " ", text[1:], "\n" + text, text + "\n", text + " ", text + "x", text + text, text + "end",
           text + "end\n", text + "last 0\n"]
    out += [text.replace("\n", other) for other in ("\r\n", "\r", " ", "\n\n", "|", "\t")]
    out += [text[:at] for at in range(len(text))]
    for at, line in enumerate(lines):
        ahead, behind = lines[:at], lines[at + 1:]
        out += [closed(ahead + [other] + behind) for other in changed_lines(line) + OTHER_LINES]
        out += [closed(ahead + [other, line] + behind) for other in OTHER_LINES]
        out += [closed(ahead + behind), closed(ahead + [line, line] + behind),
                closed(ahead + behind[:1] + [line] + behind[1:])]
    return out
