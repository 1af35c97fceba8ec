"""Writing of rules: the lines of a rule for an office of at most 20 standings that serves each slip everywhere.

The cells show the number of the standing, to the base of their size. They are told apart
by at most two ifs for each of three cells, so with a slip and a choose no more than eight
stand within one another; and with tell 0 and hang 0 left out no rule has too many lines.
"""

from falsedays.wording import told_line

CELL_SIZE = 3
CELLS = (("a", 9), ("b", 3), ("c", 1))


def rule_lines(office):
    """The list of the lines of a rule for an office."""
    # A cell that shows 0 at each standing is left out.
    cells = [cell for cell in CELLS if cell[1] < len(office.moves)]
    lines = [told_line("office", office.sizes)]
    lines.extend([told_line("cell", (name, CELL_SIZE)) for name, _ in cells])
    lines.append("each")
    for slip in range(office.sizes[0]):
        leaves = [serving_lines(cells, standing, row, slip) for standing, row in enumerate(office.moves)]
        lines.extend([told_line("slip", (slip,))] + told_apart(cells, leaves) + ["fi"])
    lines.append("close")
    lines.extend(told_apart(cells, [chosen([shown_line("hang", last) for last in lasts]) for lasts in office.closings]))
    lines.append("end")
    return lines


def serving_lines(cells, standing, row, slip):
    """The lines that do one of the moves with a slip from a standing."""
    return chosen([move_lines(cells, standing, move) for move in row if move[0] == slip])


def move_lines(cells, standing, move):
    """The lines that do a move from a standing."""
    _, answer, mark, goal = move
    lines = shown_line("tell", answer) + shown_line("hang", mark)
    for name, weight in cells:
        value = value_in(goal, weight)
        if value != value_in(standing, weight):
            lines.append(told_line("put", (name, value)))
    return lines


def value_in(standing, weight):
    """What the cell with a weight shows at a standing."""
    return standing // weight % CELL_SIZE


def shown_line(word, number):
    """The line that tells an answer or hangs a mark, in a list; none for 0, which is there from the begin."""
    if number == 0:
        return []
    return [told_line(word, (number,))]


def chosen(blocks):
    """The lines that do any one of some blocks of lines."""
    if len(blocks) == 1:
        return blocks[0]
    lines = ["choose"] + blocks[0]
    for block in blocks[1:]:
        lines.extend(["or"] + block)
    return lines + ["done"]


def told_apart(cells, leaves):
    """The lines that do the leaf with the number that the cells show."""
    if not cells:
        return leaves[0]
    name, weight = cells[0]
    parts = [told_apart(cells[1:], leaves[begin:begin + weight]) for begin in range(0, len(leaves), weight)]
    lines = parts[-1]
    for value in reversed(range(len(parts) - 1)):
        lines = [told_line("if", (name, value))] + parts[value] + ["else"] + lines + ["fi"]
    return lines
