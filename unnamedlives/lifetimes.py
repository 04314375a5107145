"""Which values a program makes, and in which row each of them dies."""

from unnamedlives.errors import NoValue
from unnamedlives.layout import check_place, closer


def site(k, i):
    """The text of the temporary that node i of row k makes."""
    return f"{k}.{i}"


def fresh_calls(expression, book):
    """The list of the nodes that are calls of fresh functions."""
    return [at for at, node in enumerate(expression.nodes) if node[0] == "call" and book[node[1]].fresh]


def shown(expression, book):
    """The list of the shown fresh call nodes."""
    fresh = fresh_calls(expression, book)
    nodes = expression.nodes
    reached = [len(nodes) - 1]
    for at in reversed(range(len(nodes))):
        node = nodes[at]
        if at in reached and node[0] in ("part", "pick"):
            reached.extend(node[1:])
        elif at in reached and node[0] == "then":
            reached.append(node[2])
    return [at for at in fresh if at in reached]


def expression_of(program, k):
    """The expression of row k, None for other rows and at the end of the program."""
    check_place(program, k)
    return program[k].expression if k <= len(program) else None


def temporaries(program, k):
    """The list of the fresh call nodes of row k."""
    expression = expression_of(program, k)
    return [] if expression is None else fresh_calls(expression, program.book)


def extended(program, k):
    """The list of the extended fresh call nodes of row k."""
    expression = expression_of(program, k)
    return [] if expression is None or program[k].kind != "ref" else shown(expression, program.book)


def loose(program, k):
    """The list of the loose fresh call nodes of row k."""
    kept = extended(program, k)
    return [i for i in temporaries(program, k) if i not in kept]


def lasting(program, k):
    """The texts of the values of row k that die with their block, in the order in which they are made."""
    if program[k].kind == "val":
        return [program[k].name]
    return [site(k, i) for i in extended(program, k)]


def origins(program):
    """A dict with the row and the node of each value, in the order in which they are listed.

    The value of a `val` row is made behind its temporaries, so it has the number behind the last node.
    """
    found = {}
    for k, row in enumerate(program, start=1):
        for i in temporaries(program, k):
            found[site(k, i)] = (k, i)
        if row.kind == "val":
            found[row.name] = (k, len(row.expression))
    return found


def made(program):
    """The list of the texts of all values of the program."""
    return list(origins(program))


def end_row(program, value):
    """The row in whose step a value dies."""
    found = origins(program)
    if value not in found:
        raise NoValue(value)
    k, i = found[value]
    return k if i in loose(program, k) else closer(program, k)


def deaths(program, k):
    """The list of the texts of the values that die at place k if they are alive, in the order of their deaths."""
    check_place(program, k)
    if k <= len(program):
        if program[k].expression is not None:
            return [site(k, i) for i in loose(program, k)[::-1]]
        if program[k].kind not in ("else", "end"):
            return []
    block = program.blocks.inner(k)
    rows = [row for row in range(k - 1, block, -1) if program.blocks.inner(row) == block]
    return [text for row in rows for text in lasting(program, row)[::-1]]
