"""What the evaluations of an expression may give, and what they may look at."""

from unnamedlives.errors import NoWay
from unnamedlives.evaluating import givers, options
from unnamedlives.integers import is_whole


def united(lists):
    """The names in the lists, ascending, then the node numbers in them, ascending, without duplicates."""
    names = sorted({thing for things in lists for thing in things if isinstance(thing, str)})
    numbers = sorted({thing for things in lists for thing in things if not isinstance(thing, str)})
    return names + numbers


def results(expression, book):
    """The list with a list for each node: its possible results."""
    found = []
    operands = givers(expression, book)
    for at, node in enumerate(expression.nodes):
        if operands[at]:
            found.append(united([found[i] for i in operands[at].values()]))
        else:
            found.append([node[1] if node[0] == "name" else at])
    return found


def arguments(expression):
    """The list of the pairs of a call node and one of its argument nodes."""
    return [(at, i) for at, node in enumerate(expression.nodes) if node[0] == "call" for i in node[2]]


def looked_at(expression, book):
    """The list of the names at which the expression looks."""
    found = results(expression, book)
    return [thing for thing in united([found[i] for _, i in arguments(expression)]) if isinstance(thing, str)]


def numbers_for(expression, book, at, wanted):
    """The numbers of a choice, by nodes, with which node `at` gives what is wanted, one of its results."""
    found = results(expression, book)
    operands = givers(expression, book)
    numbers = {}
    while operands[at]:
        numbers[at] = [number for number in operands[at] if wanted in found[operands[at][number]]][0]
        at = operands[at][numbers[at]]
    return numbers


def numbers_to(expression, at):
    """The numbers of a choice, by nodes, with which node `at` is evaluated."""
    numbers = {}
    for k, node in enumerate(expression.nodes):
        if node[0] == "pick" and expression.first(k) <= at < k:
            numbers[k] = 1 if at <= node[1] else 2
    return numbers


def completed(expression, book, numbers):
    """A choice with these numbers, and the least possible one at every other node."""
    return [numbers.get(at, allowed[0]) for at, allowed in enumerate(options(expression, book))]


def choice_for_result(expression, book, wanted):
    """A choice with which the result of the expression is `wanted`."""
    root = len(expression) - 1
    possible = results(expression, book)[root]
    # In Python True is equal to 1, but here it is no node number.
    if not isinstance(wanted, str) and not is_whole(wanted) or wanted not in possible:
        raise NoWay(wanted)
    return completed(expression, book, numbers_for(expression, book, root, wanted))


def choice_for_look(expression, book, name):
    """A choice with which some call looks at `name`."""
    if name not in looked_at(expression, book):
        raise NoWay(name)
    found = results(expression, book)
    call, argument = [(at, i) for at, i in arguments(expression) if name in found[i]][0]
    numbers = numbers_to(expression, call)
    numbers.update(numbers_for(expression, book, argument, name))
    return completed(expression, book, numbers)
