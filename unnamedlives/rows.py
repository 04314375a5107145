"""Rows of programs, and their texts."""

from unnamedlives.errors import InvalidExpression, InvalidRow
from unnamedlives.expressions import Expression
from unnamedlives.words import is_name

# The rows that bind a name, and those that consist of one word.
BINDING = ("val", "ref", "set")
BARE = ("block", "if", "else", "loop", "end")


def is_row(kind, name, expression):
    """True if there is a row with these parts, otherwise False."""
    if not isinstance(kind, str) or not isinstance(name, str):
        return False
    if kind in BINDING:
        return is_name(name) and isinstance(expression, Expression)
    if kind == "use":
        return name == "" and isinstance(expression, Expression)
    return kind in BARE and name == "" and expression is None


def parts_of(text):
    """The kind, the name and the text of the expression of a row with this text."""
    kind, _, rest = text.partition(" ")
    if kind in BINDING:
        name, _, inside = rest.partition(" = ")
        return kind, name, inside
    return kind, "", rest


class Row:
    """A row of a program."""

    def __init__(self, kind, *, name="", expression=None):
        if not is_row(kind, name, expression):
            raise InvalidRow(kind)
        self.kind = kind
        self.name = name
        self.expression = expression

    def text(self):
        """The text of the row."""
        if self.kind in BARE:
            return self.kind
        inside = self.expression.text()
        return f"{self.kind} {self.name} = {inside}" if self.kind in BINDING else f"{self.kind} {inside}"

    @staticmethod
    def read(text):
        """The row with this text."""
        if text in BARE:
            return Row(text)
        kind, name, inside = parts_of(text)
        if kind != "use" and not (kind in BINDING and is_name(name)):
            raise InvalidRow(text)
        try:
            expression = Expression.read(inside)
        except InvalidExpression:
            raise InvalidRow(text) from None
        return Row(kind, name=name, expression=expression)

    def __eq__(self, other):
        return (
            isinstance(other, Row)
            and self.kind == other.kind
            and self.name == other.name
            and self.expression == other.expression
        )
