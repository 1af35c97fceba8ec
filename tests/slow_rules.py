"""Slow judges of rules: which line is wrong, and what the office of a right rule is."""

import re


def slow_bad_line(text):
    """The number of the first wrong line, or None, by the forms of 11.1."""
    lines = text.split("\n")
    part, sizes, cells, nest = "begin", None, {}, []
    for at, line in enumerate(lines[:-1]):
        words = line.split(" ")
        good = at < 8000
        deeds = part in ("each", "close")
        number = int(words[-1]) if re.fullmatch("[0-9]", words[-1]) else None
        if words[0] == "office":
            good = good and part == "begin" and re.fullmatch("office( [1-4]){3}", line)
            if good:
                sizes, part = [int(word) for word in words[1:]], "cells"
        elif words[0] == "cell":
            good = (good and part == "cells" and re.fullmatch("cell [a-z]{1,8} [1-6]", line) and words[1] not in cells
                    and len(cells) < 4)
            if good:
                cells[words[1]] = number
        elif line in ("each", "close", "end"):
            good = good and not nest and part == {"each": "cells", "close": "each", "end": "close"}[line]
            part = line
        elif words[0] in ("put", "add", "if"):
            good = good and deeds and len(words) == 3 and words[1] in cells and number is not None
            good = good and number < cells[words[1]]
            if good and words[0] == "if":
                nest.append("if")
        elif words[0] in ("tell", "hang", "slip"):
            good = good and deeds and len(words) == 2 and (part == "each" or words[0] == "hang") and number is not None
            good = good and number < sizes[{"slip": 0, "tell": 1, "hang": 2}[words[0]]]
            if good and words[0] == "slip":
                nest.append("if")
        elif line == "choose":
            good = good and deeds
            nest.append("choose")
        elif line in ("else", "fi"):
            good = good and nest and (nest[-1] == "if" or line == "fi" and nest[-1] == "else")
            if good:
                nest.pop()
                nest += ["else"] if line == "else" else []
        elif line in ("or", "done"):
            good = good and nest and (nest[-1] == "or" or line == "or" and nest[-1] == "choose")
            if good:
                nest.pop()
                nest += ["or"] if line == "or" else []
        else:
            good = False
        if not good or len(nest) > 8:
            return at + 1
    return len(lines) if part != "end" or lines[-1] else None


class Slow:
    """A right rule, and what its deeds do, one way after the other."""

    def __init__(self, text):
        lines = [line.split(" ") for line in text.split("\n")[:-1]]
        self.sizes = tuple(int(word) for word in lines[0][1:])
        self.cells, self.cell_sizes = [], []
        at = 1
        while lines[at][0] == "cell":
            self.cells.append(lines[at][1])
            self.cell_sizes.append(int(lines[at][2]))
            at += 1
        self.lines = lines
        self.each, at = self.block(at + 1)
        self.close, at = self.block(at + 1)

    def block(self, at):
        """The deeds from a line on, and the line that ends them."""
        deeds = []
        while self.lines[at][0] not in ("else", "fi", "or", "done", "close", "end"):
            words = self.lines[at]
            at += 1
            blocks = []
            if words[0] in ("if", "slip", "choose"):
                while True:
                    block, at = self.block(at)
                    blocks.append(block)
                    at += 1
                    if self.lines[at - 1][0] in ("fi", "done"):
                        break
                if words[0] != "choose" and len(blocks) == 1:
                    blocks.append([])
            deeds.append((words, blocks))
        return deeds, at

    def done(self, deeds, slip, states):
        """All (values, answer, mark) that come of some by deeds."""
        for words, blocks in deeds:
            further = set()
            for state in states:
                further |= self.done_one(words, blocks, slip, state)
            states = further
        return states

    def done_one(self, words, blocks, slip, state):
        values, answer, mark = state
        if words[0] == "tell":
            return {(values, int(words[1]), mark)}
        if words[0] == "hang":
            return {(values, answer, int(words[1]))}
        if words[0] == "slip":
            return self.done(blocks[0 if slip == int(words[1]) else 1], slip, {state})
        if words[0] == "choose":
            return {other for block in blocks for other in self.done(block, slip, {state})}
        cell, value = self.cells.index(words[1]), int(words[2])
        if words[0] == "if":
            return self.done(blocks[0 if values[cell] == value else 1], slip, {state})
        if words[0] == "add":
            value = (values[cell] + value) % self.cell_sizes[cell]
        return {(values[:cell] + (value,) + values[cell + 1:], answer, mark)}

    def office(self):
        """The parts of the office, or None if it has more than 20 standings."""
        met, moves, closings = [(0,) * len(self.cells)], [], []
        for values in met:
            found = []
            for slip in range(self.sizes[0]):
                found += [(slip, answer, mark, goal)
                          for goal, answer, mark in self.done(self.each, slip, {(values, 0, 0)})]
            for move in sorted(found):
                if move[3] not in met:
                    met.append(move[3])
            if len(met) > 20:
                return None
            moves.append(tuple(sorted(move[:3] + (met.index(move[3]),) for move in found)))
            closings.append(tuple(sorted({mark for _, _, mark in self.done(self.close, None, {(values, 0, 0)})})))
        return self.sizes, tuple(moves), tuple(closings)
