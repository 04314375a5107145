"""The effects of pieces, and putting pieces into programs."""

from unnamedlives.effects import Effect
from unnamedlives.errors import DuplicateName, NotReference, UnknownName
from unnamedlives.layout import every_reference, in_scope
from unnamedlives.lifetimes import deaths, extended, site
from unnamedlives.programs import Program
from unnamedlives.rows import Row
from unnamedlives.tables import explore, looks_of, results_of


def effect(program):
    """The effect of a piece."""
    table = explore(program)
    rows = range(1, len(program) + 1)
    seen = {end: True for k in rows for name in looks_of(program, k) for end in table.ends(k, name)}
    gives = {out: table.ends(len(program) + 1, out) for out in program.outs}
    return over_outs(program, [out for out in program.outs if out in seen], gives, not table.accepted)


def over_outs(program, looks, gives, faulty):
    """The effect over the outs alone: whatever else an out gives is dead behind the piece."""
    outs = program.outs
    left = {out: [text if text in outs else "dead" for text in gives[out]] for out in outs}
    return Effect(outs, looks=looks, gives=left, faulty=faulty)


def result_text(program, k, thing):
    """What a reference gives that row k binds to this result."""
    if isinstance(thing, str):
        return thing
    return site(k, thing) if thing in extended(program, k) else "dead"


def row_effect(program, k):
    """The effect of an expression row, over all references."""
    row = program[k]
    gives = {}
    if row.kind in ("ref", "set"):
        gives[row.name] = [result_text(program, k, thing) for thing in results_of(program, k)]
    return Effect(every_reference(program), looks=looks_of(program, k), gives=gives)


def rows_effect(program, block):
    """The effect of the rows of a block one after the other, over all references."""
    total = Effect.nothing(every_reference(program))
    k = block + 1
    while k < program.blocks.ender(block):
        if program[k].expression is not None:
            total = total >> row_effect(program, k)
            k += 1
        else:
            total = total >> opened_effect(program, k)
            k = last_row(program, k) + 1
    return total


def last_row(program, k):
    """The `end` row of the block that row k opens, for an `if` that of its last part."""
    last = program.blocks.ender(k)
    return program.blocks.ender(last) if program[last].kind == "else" else last


def opened_effect(program, k):
    """The effect of the block that row k opens, or of the two parts of an `if`, over all references."""
    first = block_effect(program, k)
    kind = program[k].kind
    if kind == "block":
        return first
    if kind == "loop":
        return first.repeated()
    middle = program.blocks.ender(k)
    if program[middle].kind == "else":
        return first | block_effect(program, middle)
    return Effect.nothing(first.outs) | first


def block_effect(program, block):
    """The effect of a block with its end, over all references.

    The values of its own rows die at its end, and its own references give themselves: nothing is left of them.
    """
    inside = rows_effect(program, block)
    last = program.blocks.ender(block)
    dying = deaths(program, last)
    left = [name for name in inside.outs if program.is_in_scope(block + 1, name)]
    gives = {name: ["dead" if text in dying else text for text in inside.gives(name)] for name in left}
    return Effect(inside.outs, looks=inside.looks, gives=gives, faulty=inside.faulty)


def effect_by_parts(program):
    """The effect of a piece, put together row by row."""
    whole = block_effect(program, 0)
    gives = {out: whole.gives(out) for out in program.outs}
    return over_outs(program, [out for out in program.outs if out in whole.looks], gives, whole.faulty)


def check_insertion(program, k, piece):
    """Raises an error if k is no place of the program, or the names of the piece do not fit there."""
    names = in_scope(program, k)
    for out in piece.outs:
        if out not in names:
            raise UnknownName(out)
        if program.kind_of(out) == "val":
            raise NotReference(out)
    for name in piece.names():
        if name not in piece.outs and name in program.names():
            raise DuplicateName(name)


def inserted(program, k, piece):
    """The program with the piece ahead of row k."""
    check_insertion(program, k, piece)
    book = program.book | piece.book
    rows = list(program)
    middle = [Row("block")] + list(piece) + [Row("end")]
    return Program(book, program.outs, rows[:k - 1] + middle + rows[k - 1:])
