"""Expressions: lists of nodes in postorder, and their texts."""

from unnamedlives.errors import InvalidExpression, NoPlace, TooLarge
from unnamedlives.integers import is_integer_in
from unnamedlives.words import is_name

MOST_ARGUMENTS = 4
# The operations that are not calls, with their numbers of operands.
OPERATIONS = {"part": 1, "pick": 2, "then": 2}


def cut(text):
    """The text cut into names, beginnings of operations such as `f(`, commas and closing parentheses."""
    pieces = []
    start = 0
    for at, sign in enumerate(text):
        if sign == "(":
            pieces.append(text[start:at + 1])
            start = at + 1
        elif sign == "," or sign == ")":
            if start < at:
                pieces.append(text[start:at])
            pieces.append(sign)
            start = at + 1
    if start < len(text):
        pieces.append(text[start:])
    return pieces


def operation(word, operands):
    """The node of an operation with these operands, or None if there is none."""
    if word in OPERATIONS:
        return (word, *operands) if len(operands) == OPERATIONS[word] else None
    if is_name(word) and len(operands) <= MOST_ARGUMENTS:
        return ("call", word, tuple(operands))
    return None


def closed(waiting, behind_operand):
    """Takes the innermost waiting operation, and returns its node, or None if it cannot end here."""
    if not waiting:
        return None
    word, operands = waiting.pop()
    # Only `f()` ends without an operand directly before the parenthesis; `f(x,)` does not.
    if operands and not behind_operand:
        return None
    return operation(word, operands)


def add_node(nodes, waiting, node):
    """Adds a node, which is an operand of the innermost waiting operation, if there is one."""
    if waiting:
        waiting[-1][1].append(len(nodes))
    nodes.append(node)


def nodes_of(text):
    """The nodes of the expression with this text, or None if there is none.

    The operations that are not closed yet wait in a list, with their operands so far. There is no
    recursion, because a text may be nested deep.
    """
    nodes = []
    waiting = []
    behind_operand = False
    for piece in cut(text):
        if piece == ",":
            if not waiting or not behind_operand:
                return None
            behind_operand = False
        elif piece == ")":
            node = closed(waiting, behind_operand)
            if node is None:
                return None
            add_node(nodes, waiting, node)
            behind_operand = True
        elif behind_operand:
            return None
        elif piece[-1] == "(":
            waiting.append((piece[:-1], []))
        elif is_name(piece):
            add_node(nodes, waiting, ("name", piece))
            behind_operand = True
        else:
            return None
    return nodes if behind_operand and not waiting else None


def operands_of(node):
    """The tuple of the operands of a node."""
    if node[0] == "name":
        return ()
    if node[0] == "call":
        return node[2]
    return node[1:]


def firsts_of(nodes):
    """The list of the lowest nodes of the ranges of the nodes."""
    firsts = []
    for at, node in enumerate(nodes):
        operands = operands_of(node)
        firsts.append(firsts[operands[0]] if operands else at)
    return firsts


def node_text(node, texts):
    """The text of a node; `texts` has those of its operands."""
    if node[0] == "name":
        return node[1]
    word = node[1] if node[0] == "call" else node[0]
    inside = ",".join([texts[i] for i in operands_of(node)])
    return f"{word}({inside})"


class Expression:
    """An expression. The last node is the root."""

    MOST_NODES = 20

    def __init__(self, nodes):
        self._nodes = tuple(nodes)
        self._firsts = firsts_of(nodes)

    @classmethod
    def read(cls, text):
        """The expression with this text."""
        nodes = nodes_of(text)
        if nodes is None:
            raise InvalidExpression(text)
        if len(nodes) > cls.MOST_NODES:
            raise TooLarge("nodes")
        return cls(nodes)

    @property
    def nodes(self):
        """The list of the nodes."""
        return list(self._nodes)

    def __len__(self):
        return len(self._nodes)

    def first(self, at):
        """The lowest node of the range of node `at`."""
        if not is_integer_in(at, 0, len(self._nodes) - 1):
            raise NoPlace(at)
        return self._firsts[at]

    def text(self):
        """The text of the expression."""
        return self.part_text(len(self._nodes) - 1)

    def part_text(self, at, *, named=None):
        """The text of node `at`, with the names in `named` in place of the nodes with these numbers."""
        texts = {}
        for k in range(self.first(at), at + 1):
            if named is not None and k in named:
                texts[k] = named[k]
            else:
                texts[k] = node_text(self._nodes[k], texts)
        return texts[at]

    def __eq__(self, other):
        return isinstance(other, Expression) and self._nodes == other._nodes
