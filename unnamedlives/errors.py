"""The errors of the package."""


def copied(thing, levels=4):
    """The thing, with new lists and dicts instead of those that it consists of.

    The levels are limited because a caller may pass a list that contains itself.
    """
    if levels == 0:
        return thing
    if isinstance(thing, list):
        return [copied(part, levels - 1) for part in thing]
    if isinstance(thing, tuple):
        return tuple([copied(part, levels - 1) for part in thing])
    if isinstance(thing, dict):
        return {key: copied(thing[key], levels - 1) for key in thing}
    return thing


class LivesError(ValueError):
    """The base class of all errors of the package."""

    def __init__(self, what):
        self.what = copied(what)


class InvalidSignature(LivesError):
    """There is no such signature."""


class DuplicateFunction(LivesError):
    """A book has another function of this name already."""


class UnknownFunction(LivesError):
    """The book has no function of this name."""


class InvalidExpression(LivesError):
    """The text is not that of an expression."""


class InvalidRow(LivesError):
    """There is no such row."""


class InvalidLine(LivesError):
    """The line with this number does not belong into the text of a program."""


class UnknownName(LivesError):
    """The name is not known there."""


class DuplicateName(LivesError):
    """The name is taken already."""


class NotReference(LivesError):
    """The name is not that of a reference."""


class WrongCount(LivesError):
    """A call of this function has the wrong number of arguments."""


class Unbalanced(LivesError):
    """The row or place with this number does not fit to the open blocks."""


class TooLarge(LivesError):
    """There are too many things of this kind."""


class BadChoice(LivesError):
    """This is not a choice for what is to be done."""


class Ended(LivesError):
    """The run has ended at this place."""


class NoPlace(LivesError):
    """There is no place, row or node with this number."""


class NoValue(LivesError):
    """There is no such value."""


class NeverTogether(LivesError):
    """The value and the other one are never alive together."""


class NoFact(LivesError):
    """The table does not have this fact."""


class NoWay(LivesError):
    """No choice leads to this."""


class NotLoose(LivesError):
    """This is not a loose temporary of the program."""


class NoMend(LivesError):
    """Naming temporaries does not remove this fault."""


class OtherOuts(LivesError):
    """The outs are not the same, or stand in another order."""


class DeadLook(LivesError):
    """A row looks at a dead value."""

    def __init__(self, row, what):
        super().__init__(what)
        self.row = row
