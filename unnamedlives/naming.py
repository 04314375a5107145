"""Naming temporaries: which of them need a name, and the program in which they have one."""

from unnamedlives.errors import NoMend, NotLoose
from unnamedlives.expressions import Expression
from unnamedlives.lifetimes import loose, made, site
from unnamedlives.programs import Program
from unnamedlives.rows import Row
from unnamedlives.tables import explore


def new_names(taken, count):
    """The first names n1, n2, n3 and so on that are not taken."""
    names = []
    number = 1
    while len(names) < count:
        name = f"n{number}"
        if name not in taken:
            names.append(name)
        number += 1
    return names


def needed(program):
    """The list of the needed temporaries."""
    ends = {}
    for fault in explore(program).faults():
        if fault[2] == "dead":
            raise NoMend(fault)
        ends[fault[2]] = True
    return [text for text in made(program) if text in ends]


def row_with(row, at, names, kind, name):
    """The row that binds a name to node `at` of a row, with names in place of the nodes inside it."""
    text = row.expression.part_text(at, named=names)
    return Row(kind, name=name, expression=Expression.read(text))


def named_rows(row, names):
    """The rows for the nodes that get names, in ascending order, and the row itself with these names."""
    if not names:
        return [row]
    rows = []
    for i in names:
        others = {j: names[j] for j in names if j != i}
        rows.append(row_with(row, i, others, "val", names[i]))
    rows.append(row_with(row, len(row.expression) - 1, names, row.kind, row.name))
    return rows


def named(program, lot):
    """The program after naming the temporaries of the lot."""
    nodes = [(k, i) for k in range(1, len(program) + 1) for i in loose(program, k)]
    texts = [site(k, i) for k, i in nodes]
    for text in lot:
        if text not in texts:
            raise NotLoose(text)
    chosen = [(k, i) for k, i in nodes if site(k, i) in lot]
    names = {node: name for node, name in zip(chosen, new_names(program.names(), len(chosen)))}
    rows = []
    for k, row in enumerate(program, start=1):
        rows.extend(named_rows(row, {node[1]: names[node] for node in chosen if node[0] == k}))
    return Program(program.book, program.outs, rows)


def mended(program):
    """The program after naming the needed temporaries."""
    return named(program, needed(program))
