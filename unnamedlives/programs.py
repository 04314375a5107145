"""Programs: their rows, blocks and names, and their texts."""

from unnamedlives.errors import (
    DuplicateName, InvalidLine, InvalidRow, InvalidSignature, NoPlace, NotReference, TooLarge, Unbalanced,
    UnknownName, WrongCount,
)
from unnamedlives.integers import is_integer_in
from unnamedlives.rows import Row
from unnamedlives.signatures import Book, Signature
from unnamedlives.words import is_name


def text_of(book, outs, rows):
    """The text of the program with these parts."""
    lines = [signature.text() for signature in book if signature.name not in ("new", "copy")]
    if outs:
        lines.append(" ".join(["out", *outs]))
    lines.extend([row.text() for row in rows])
    return "\n".join(lines)


def read_signature(line, j):
    """The signature in line j."""
    try:
        return Signature.read(line)
    except InvalidSignature:
        raise InvalidLine(j) from None


def read_outs(line, j):
    """The list of the outs in line j."""
    outs = line.split(" ")[1:]
    if not all([is_name(name) for name in outs]):
        raise InvalidLine(j)
    return outs


def read_row(line, j):
    """The row in line j."""
    try:
        return Row.read(line)
    except InvalidRow:
        raise InvalidLine(j) from None


def read_lines(text):
    """The signatures, the outs and the rows in the text of a program."""
    signatures = []
    outs = []
    rows = []
    lines = text.split("\n") if text != "" else []
    for j, line in enumerate(lines, start=1):
        is_head = line.startswith("fun ") or line.startswith("out ")
        if is_head and (outs or rows):
            raise InvalidLine(j)
        if not is_head:
            rows.append(read_row(line, j))
        elif line.startswith("fun "):
            signatures.append(read_signature(line, j))
        else:
            outs = read_outs(line, j)
    return signatures, outs, rows


class Blocks:
    """The blocks of a program, found row by row.

    A block is known by the row that opens it, the program by 0. The two parts of an `if` are two blocks: the
    then-part is known by the `if` row, the else-part by the `else` row.
    """

    def __init__(self, most_depth):
        self._most_depth = most_depth
        self._opened = [0]
        self._kinds = ["program"]
        self._around = [(0,)]
        self._enders = {}

    def take(self, kind):
        """Takes the next row, which is of this kind."""
        k = len(self._around)
        if kind in ("block", "if", "loop") and len(self._opened) == self._most_depth:
            raise TooLarge("depth")
        if kind == "else" and self._kinds[self._opened[-1]] != "if":
            raise Unbalanced(k)
        if kind == "end" and len(self._opened) == 1:
            raise Unbalanced(k)
        self._around.append(tuple(self._opened))
        self._kinds.append(kind)
        if kind in ("else", "end"):
            self._enders[self._opened.pop()] = k
        if kind in ("block", "if", "loop", "else"):
            self._opened.append(k)

    def finish(self):
        """Takes the end of the program."""
        k = len(self._around)
        if len(self._opened) > 1:
            raise Unbalanced(k)
        self._around.append((0,))
        self._enders[0] = k

    def around(self, k):
        """The tuple of the blocks that contain place k, the outermost one first; for 0 the program."""
        return self._around[k]

    def inner(self, k):
        """The innermost block that contains place k."""
        return self._around[k][-1]

    def ender(self, block):
        """The row that ends the block, for the program the place behind its last row."""
        return self._enders[block]


class Program:
    """A program that keeps the rules of names, calls and blocks, and the bounds."""

    MOST_ROWS = 48
    MOST_NAMES = 16
    MOST_NODES = 100
    MOST_DEPTH = 8

    def __init__(self, book, outs, rows):
        if len(rows) > self.MOST_ROWS:
            raise TooLarge("rows")
        self.book = book
        self.outs = tuple(outs)
        self.blocks = Blocks(self.MOST_DEPTH)
        self._rows = tuple(rows)
        self._kinds = {}
        self._homes = {}
        self._take_outs()
        self._take_rows()
        self._text = text_of(self.book, self.outs, self._rows)

    def _take_outs(self):
        for name in self.outs:
            if name in self._kinds:
                raise DuplicateName(name)
            self._kinds[name] = "out"
            self._homes[name] = 0
        if len(self.outs) > self.MOST_NAMES:
            raise TooLarge("names")

    def _take_rows(self):
        count = 0
        for k, row in enumerate(self._rows, start=1):
            self.blocks.take(row.kind)
            if row.expression is not None:
                count += len(row.expression)
                if count > self.MOST_NODES:
                    raise TooLarge("nodes")
                self._check_nodes(k, row.expression.nodes)
                self._take_name(k, row)
        self.blocks.finish()

    def _check_nodes(self, k, nodes):
        for node in nodes:
            if node[0] == "name":
                self._check_scope(k, node[1])
            # The book itself raises the error for a function that it does not have.
            elif node[0] == "call" and len(node[2]) != self.book[node[1]].count:
                raise WrongCount(node[1])

    def _check_scope(self, k, name):
        if not self.is_in_scope(k, name):
            raise UnknownName(name)

    def _take_name(self, k, row):
        if row.kind == "set":
            self._check_scope(k, row.name)
            if self._kinds[row.name] == "val":
                raise NotReference(row.name)
        elif row.kind != "use":
            if row.name in self._kinds:
                raise DuplicateName(row.name)
            if len(self._kinds) == self.MOST_NAMES:
                raise TooLarge("names")
            self._kinds[row.name] = row.kind
            self._homes[row.name] = k

    def is_in_scope(self, k, name):
        """True if the name is in scope before row k, for place n + 1 at the end of the program, otherwise False."""
        if name not in self._homes or self._homes[name] >= k:
            return False
        return self.blocks.inner(self._homes[name]) in self.blocks.around(k)

    def __len__(self):
        return len(self._rows)

    def __getitem__(self, k):
        if not is_integer_in(k, 1, len(self._rows)):
            raise NoPlace(k)
        return self._rows[k - 1]

    def __iter__(self):
        return iter(self._rows)

    def names(self):
        """The list of its names: the outs, then the others in the order of their rows."""
        return list(self._kinds)

    def kind_of(self, name):
        """What the name is: out, val or ref."""
        if name not in self._kinds:
            raise UnknownName(name)
        return self._kinds[name]

    def row_of(self, name):
        """The row that declares the name, 0 for an out."""
        if name not in self._homes:
            raise UnknownName(name)
        return self._homes[name]

    def text(self):
        """The text of the program."""
        return self._text

    @classmethod
    def read(cls, text):
        """The program with this text."""
        signatures, outs, rows = read_lines(text)
        return cls(Book(*signatures), outs, rows)

    def __eq__(self, other):
        return isinstance(other, Program) and self._text == other._text
