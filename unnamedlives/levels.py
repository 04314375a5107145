"""Tables with one number for each reference, at each place or in the whole program."""

from unnamedlives.integers import is_integer_in
from unnamedlives.layout import after, depth, every_reference, references
from unnamedlives.tables import Lives, end_of_result, explore, is_reference, number_of, results_of


def keys_of(program):
    """The list of the pairs of a place and a reference in scope there."""
    return [(k, name) for k in range(1, len(program) + 2) for name in references(program, k)]


def least_numbers(program):
    """The least closed table of numbers."""
    table = explore(program)
    return {(k, name): table.number(k, name) for k, name in keys_of(program)}


def bound_number(program, k, numbers):
    """The least number of the name that row k binds; `numbers` has those of the references before the row."""
    given = results_of(program, k)
    known = [numbers[thing] for thing in given if is_reference(program, thing)]
    made = [number_of(end_of_result(program, k, thing)) for thing in given if not is_reference(program, thing)]
    return max(known + made)


def least_after(program, k, numbers):
    """A dict with the least numbers after the step of row k of the references in scope before or after it."""
    row = program[k]
    level = depth(program, k) if row.kind in ("else", "end") else Lives.DEAD
    least = {name: numbers[name] if numbers[name] < level else Lives.DEAD for name in numbers}
    if row.kind in ("ref", "set"):
        least[row.name] = bound_number(program, k, numbers)
    return least


def is_closed_at(program, table, k):
    """True if the inequalities of row k hold, otherwise False."""
    least = least_after(program, k, {name: table[(k, name)] for name in references(program, k)})
    return all([table[(q, name)] >= least[name] for q in after(program, k) for name in references(program, q)])


def is_closed(program, table):
    """True if the dict is a table of numbers and closed, otherwise False."""
    if not all([key in table and is_integer_in(table[key], 0, Lives.DEAD) for key in keys_of(program)]):
        return False
    return all([is_closed_at(program, table, k) for k in range(1, len(program) + 1)])


def reach(program):
    """A dict with the reach of each reference."""
    rows = [k for k, row in enumerate(program, start=1) if row.kind in ("ref", "set")]
    reached = {name: 0 for name in every_reference(program)}
    is_settled = False
    while not is_settled:
        is_settled = True
        for k in rows:
            least = bound_number(program, k, reached)
            if reached[program[k].name] < least:
                reached[program[k].name] = least
                is_settled = False
    return reached


def most_reach(program, name):
    """The greatest reach of a reference that the quick rule lets through."""
    return 0 if program.kind_of(name) == "out" else depth(program, program.row_of(name))


def quick(program):
    """True if the quick rule lets the program through, otherwise False."""
    reached = reach(program)
    return all([reached[name] <= most_reach(program, name) for name in reached])
