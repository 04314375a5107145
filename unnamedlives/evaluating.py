"""Choices for expressions, and what an evaluation does."""

from unnamedlives.errors import BadChoice
from unnamedlives.expressions import operands_of
from unnamedlives.integers import is_whole


def givers_of(node, sources):
    """A dict from the numbers of a choice at a node to the operands whose value the node then gives.

    It is empty for a node that gives a value of its own: a name or a call of a fresh function.
    """
    if node[0] == "part":
        return {0: node[1]}
    if node[0] == "pick":
        return {1: node[1], 2: node[2]}
    if node[0] == "then":
        return {0: node[2]}
    return {source: node[2][source - 1] for source in sources}


def givers(expression, book):
    """The list of the dicts of `givers_of` for the nodes of an expression."""
    nodes = expression.nodes
    # All functions are looked up first: nothing else comes before a function that is not in the book.
    sources = [book[node[1]].sources if node[0] == "call" else () for node in nodes]
    return [givers_of(node, own) for node, own in zip(nodes, sources)]


def options(expression, book):
    """The list with a tuple for each node: the integers that a choice may have there."""
    return [tuple(operands) if operands else (0,) for operands in givers(expression, book)]


def fits(choice, allowed):
    """True if a choice is a list or tuple with one integer out of each tuple in `allowed`, otherwise False."""
    if not isinstance(choice, (list, tuple)) or len(choice) != len(allowed):
        return False
    return all([is_whole(number) and number in numbers for number, numbers in zip(choice, allowed)])


def is_choice(expression, book, choice):
    """True if `choice` is a choice for the expression, otherwise False."""
    return fits(choice, options(expression, book))


def evaluated(expression, choice):
    """The list of the nodes that are evaluated with a choice."""
    nodes = expression.nodes
    reached = [False] * len(nodes)
    reached[-1] = True
    for at in reversed(range(len(nodes))):
        node = nodes[at]
        if reached[at]:
            operands = [node[choice[at]]] if node[0] == "pick" else operands_of(node)
            for i in operands:
                reached[i] = True
    return [at for at, is_reached in enumerate(reached) if is_reached]


def outcome(expression, book, choice):
    """Evaluates the expression, and returns the list of the looks and births, and where the result comes from."""
    operands = givers(expression, book)
    if not is_choice(expression, book, choice):
        raise BadChoice(choice)
    nodes = expression.nodes
    events = []
    given = {}
    for at in evaluated(expression, choice):
        node = nodes[at]
        if node[0] == "call":
            events.extend([("look", given[i]) for i in node[2]])
        if operands[at]:
            given[at] = given[operands[at][choice[at]]]
        elif node[0] == "name":
            given[at] = node[1]
        else:
            given[at] = at
            events.append(("birth", at))
    return events, given[len(nodes) - 1]
