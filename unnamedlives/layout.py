"""Places of programs: their depths, the blocks around them, the steps between them, and the names in scope there."""

from unnamedlives.errors import NoPlace
from unnamedlives.integers import is_integer_in


def check_place(program, k):
    """Raises an error if k is not a place of the program."""
    if not is_integer_in(k, 1, len(program) + 1):
        raise NoPlace(k)


def depth(program, k):
    """The depth of row k or of the end of the program."""
    check_place(program, k)
    return len(program.blocks.around(k))


def closer(program, k):
    """The closing row of place k."""
    check_place(program, k)
    return program.blocks.ender(program.blocks.inner(k))


def after(program, k):
    """The list of the next places of place k."""
    check_place(program, k)
    if k > len(program):
        return []
    kind = program[k].kind
    if kind == "if" or kind == "loop":
        return [k + 1, program.blocks.ender(k) + 1]
    if kind == "else":
        return [program.blocks.ender(k) + 1]
    block = program.blocks.inner(k)
    if kind == "end" and program[block].kind == "loop":
        return [block]
    return [k + 1]


def in_scope(program, k):
    """The list of the names in scope before row k, or at the end of the program."""
    check_place(program, k)
    return [name for name in program.names() if program.is_in_scope(k, name)]


def references(program, k):
    """The list of the references in scope before row k, or at the end of the program."""
    return [name for name in in_scope(program, k) if program.kind_of(name) != "val"]


def every_reference(program):
    """The list of all references of the program, in the order of its names."""
    return [name for name in program.names() if program.kind_of(name) != "val"]
