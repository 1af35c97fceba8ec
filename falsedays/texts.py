"""Texts of offices and days."""

from falsedays.wording import closed_lines, told_line


def office_text(office):
    """The text of an office."""
    lines = [told_line("office", office.sizes)]
    for standing, moves in enumerate(office.moves):
        lines.append(told_line("at", (standing,)))
        lines.extend([told_line("move", move) for move in moves])
        lines.append(told_line("closes", office.closings[standing]))
    return closed_lines(lines)


def day_text(day):
    """The text of a day."""
    steps, last = day
    return closed_lines([told_line("step", step) for step in steps] + [told_line("last", (last,))])
