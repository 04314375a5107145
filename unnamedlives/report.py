"""The report of a program: its rows, the numbers of its references at each place, and whether it is accepted."""

from unnamedlives.layout import every_reference
from unnamedlives.tables import Lives, explore


def entry(program, table, k, name):
    """The entry of a reference at a place."""
    if not program.is_in_scope(k, name):
        return "-"
    number = table.number(k, name)
    return "dead" if number == Lives.DEAD else str(number)


def line(head, entries, text):
    """A line with a head, an entry for each column, and a text."""
    columns = "".join([f"{word:>9}" for word in entries])
    return f"{head}{columns}  {text}"


def place_line(program, table, k):
    """The line of place k."""
    entries = [entry(program, table, k, name) for name in every_reference(program)]
    text = program[k].text() if k <= len(program) else "end of program"
    return line(f"{k:>3}  ", entries, text)


def verdict(table):
    """The last line."""
    fault = table.nearest_fault()
    if fault is None:
        return "accepted"
    place, name, end = fault
    steps = table.distance(place, name, end) + 1
    return f"fault at row {place} after {steps} steps"


def report(program):
    """The report of the program."""
    table = explore(program)
    lines = [line(" " * 5, every_reference(program), "row")]
    lines.extend([place_line(program, table, k) for k in range(1, len(program) + 2)])
    lines.append(verdict(table))
    return "\n".join(lines)
