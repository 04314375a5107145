"""Which values are alive together, and which of them dies first."""

from unnamedlives.errors import NeverTogether, NoValue
from unnamedlives.lifetimes import end_row, loose, origins


def above(expression, i, j):
    """The lowest node whose range contains the nodes i and j."""
    at = max(i, j)
    while expression.first(at) > min(i, j):
        at += 1
    return at


def in_order(program, one, other):
    """The two values, the one that is listed earlier first."""
    found = origins(program)
    for value in (one, other):
        if value not in found:
            raise NoValue(value)
    return (one, other) if found[one] < found[other] else (other, one)


def together(program, one, other):
    """True if the two values are together, otherwise False."""
    first, second = in_order(program, one, other)
    found = origins(program)
    k, i = found[first]
    row, j = found[second]
    if k != row:
        return k < row < end_row(program, first)
    expression = program[k].expression
    # The value of a `val` row has no node of its own: its number lies behind the last one.
    return j == len(expression) or expression.nodes[above(expression, i, j)][0] != "pick"


def is_loose(program, value):
    """True if the value is a loose temporary, otherwise False."""
    k, i = origins(program)[value]
    return i in loose(program, k)


def dies_first(program, one, other):
    """The text of the one of the two values that dies first."""
    if not together(program, one, other):
        raise NeverTogether(one)
    first, second = in_order(program, one, other)
    found = origins(program)
    if found[first][0] == found[second][0] and is_loose(program, first) and not is_loose(program, second):
        return first
    return second
