"""Surroundings that show that one piece may not replace another one."""

from unnamedlives.effects import added
from unnamedlives.errors import TooLarge
from unnamedlives.naming import new_names
from unnamedlives.pieces import effect
from unnamedlives.programs import Program

# A surrounding has two names more.
MOST_OUTS = 14


def fading(out, name):
    """The lines that let an out refer to a value that is dead behind them."""
    return ["block", f"val {name} = new()", f"set {out} = {name}", "end"]


def surrounding(one, other, names):
    """The lines of a surrounding for two effects, and the place at which they are to be compared."""
    head = [f"val {names[0]} = new()"] + [f"ref {out} = {names[0]}" for out in one.outs]
    if one.faulty:
        return head, len(head) + 1
    seen = [out for out in one.outs if out in one.looks and out not in other.looks]
    if seen:
        lines = head + fading(seen[0], names[1])
        return lines, len(lines) + 1
    out = [name for name in one.outs if added(one, other, name)][0]
    more = added(one, other, out)
    if "dead" in more:
        return head + [f"use {out}"], len(head) + 1
    source = [name for name in one.outs if name in more][0]
    lines = head + fading(source, names[1])
    return lines + [f"use {out}"], len(lines)


def parting(piece, other):
    """None if the piece may replace the other one, otherwise a surrounding, and the place, where it may not."""
    one = effect(piece)
    two = effect(other)
    # This also raises the error for other outs.
    if one.may_replace(two):
        return None
    if len(piece.outs) > MOST_OUTS:
        raise TooLarge("names")
    lines, k = surrounding(one, two, new_names(piece.names() + other.names(), 2))
    return Program.read("\n".join(lines)), k
