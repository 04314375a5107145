"""Shortest runs to a fact and to a look at a dead value."""

from unnamedlives.layout import after
from unnamedlives.summaries import choice_for_look, choice_for_result, completed, looked_at
from unnamedlives.tables import end_of_result, explore, is_reference, results_of


def result_for(program, k, end):
    """A result of the expression of row k that is not a reference and gives this end."""
    given = [thing for thing in results_of(program, k) if not is_reference(program, thing)]
    return [thing for thing in given if end_of_result(program, k, thing) == end][0]


def choice_between(program, fact, following):
    """A choice for the step from a fact to one that follows it; a fact without a name is a place alone."""
    k, source, _ = fact
    q, name, end = following
    row = program[k]
    if row.expression is None:
        places = after(program, k)
        return [places.index(q) + 1] if len(places) == 2 else []
    if name == "" or name != row.name:
        return completed(row.expression, program.book, {})
    wanted = source if source != "" else result_for(program, k, end)
    return choice_for_result(row.expression, program.book, wanted)


def run_along(program, way):
    """The list of the choices for the steps between the facts of a way."""
    return [choice_between(program, fact, following) for fact, following in zip(way, way[1:])]


def choice_for_fault(program, k, name):
    """A choice with which row k looks at the value of one of its looks."""
    expression = program[k].expression
    if name in looked_at(expression, program.book):
        return choice_for_look(expression, program.book, name)
    return choice_for_result(expression, program.book, name)


def shortest_fault(program):
    """A shortest run to a look at a dead value, None if there is none."""
    table = explore(program)
    fault = table.nearest_fault()
    if fault is None:
        return None
    place, name, end = fault
    return run_along(program, table.way(place, name, end)) + [choice_for_fault(program, place, name)]


def run_to(program, place, name, end):
    """A shortest run to a fact."""
    return run_along(program, explore(program).way(place, name, end))
