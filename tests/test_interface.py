"""The names, arguments and kinds of values of the interface, each in the file under which it is listed."""

import inspect
import unittest

from unnamedlives import (
    effects, errors, evaluating, expressions, layout, levels, lifetimes, machine, naming, orders, parting, pieces, programs,
    report, rows, runs, signatures, summaries, tables, words,
)

FUNCTIONS = {
    words: {"is_name": "(text)"},
    evaluating: {
        "options": "(expression, book)",
        "is_choice": "(expression, book, choice)",
        "evaluated": "(expression, choice)",
        "outcome": "(expression, book, choice)",
    },
    summaries: {
        "results": "(expression, book)",
        "looked_at": "(expression, book)",
        "choice_for_result": "(expression, book, wanted)",
        "choice_for_look": "(expression, book, name)",
    },
    layout: {
        "depth": "(program, k)",
        "closer": "(program, k)",
        "after": "(program, k)",
        "in_scope": "(program, k)",
        "references": "(program, k)",
    },
    lifetimes: {
        "site": "(k, i)",
        "temporaries": "(program, k)",
        "extended": "(program, k)",
        "loose": "(program, k)",
        "shown": "(expression, book)",
        "made": "(program)",
        "end_row": "(program, value)",
        "deaths": "(program, k)",
    },
    orders: {
        "above": "(expression, i, j)",
        "together": "(program, one, other)",
        "dies_first": "(program, one, other)",
    },
    machine: {
        "what_if": "(machine, choices)",
        "replay": "(program, run, *, strict=True)",
    },
    tables: {"explore": "(program)"},
    levels: {
        "least_numbers": "(program)",
        "is_closed": "(program, table)",
        "reach": "(program)",
        "quick": "(program)",
    },
    runs: {
        "shortest_fault": "(program)",
        "run_to": "(program, place, name, end)",
    },
    naming: {
        "needed": "(program)",
        "named": "(program, lot)",
        "mended": "(program)",
    },
    pieces: {
        "effect": "(program)",
        "effect_by_parts": "(program)",
        "inserted": "(program, k, piece)",
    },
    parting: {"parting": "(piece, other)"},
    report: {"report": "(program)"},
}
CLASSES = {
    signatures: {
        "Signature": {
            "__init__": "(self, name, count, *, sources=())",
            "fresh": property,
            "text": "(self)",
            "read": (staticmethod, "(line)"),
            "__eq__": "(self, other)",
        },
        "Book": {
            "__init__": "(self, *signatures)",
            "__len__": "(self)",
            "__contains__": "(self, name)",
            "__getitem__": "(self, name)",
            "__iter__": "(self)",
            "__or__": "(self, other)",
        },
    },
    expressions: {
        "Expression": {
            "MOST_NODES": 20,
            "read": (classmethod, "(cls, text)"),
            "nodes": property,
            "__len__": "(self)",
            "first": "(self, at)",
            "text": "(self)",
            "part_text": "(self, at, *, named=None)",
            "__eq__": "(self, other)",
        },
    },
    rows: {
        "Row": {
            "__init__": "(self, kind, *, name='', expression=None)",
            "text": "(self)",
            "read": (staticmethod, "(text)"),
            "__eq__": "(self, other)",
        },
    },
    programs: {
        "Program": {
            "MOST_ROWS": 48,
            "MOST_NAMES": 16,
            "MOST_NODES": 100,
            "MOST_DEPTH": 8,
            "__init__": "(self, book, outs, rows)",
            "__len__": "(self)",
            "__getitem__": "(self, k)",
            "__iter__": "(self)",
            "names": "(self)",
            "kind_of": "(self, name)",
            "row_of": "(self, name)",
            "text": "(self)",
            "read": (classmethod, "(cls, text)"),
            "__eq__": "(self, other)",
        },
    },
    machine: {
        "Machine": {
            "__init__": "(self, program, *, strict=True)",
            "__call__": "(self, choice)",
            "events": "(self)",
            "value_of": "(self, name)",
            "told": "(self, number)",
            "alive": "(self, number)",
            "end": "(self, name)",
        },
    },
    tables: {
        "Lives": {
            "DEAD": 99,
            "ends": "(self, place, name)",
            "number": "(self, place, name)",
            "steps_to": "(self, place)",
            "distance": "(self, place, name, end)",
            "cause": "(self, place, name, end)",
            "faults": "(self)",
            "accepted": property,
            "walk": "(self)",
        },
    },
    effects: {
        "Effect": {
            "__init__": "(self, outs, *, looks=(), gives=None, faulty=False)",
            "looks": property,
            "gives": "(self, out)",
            "nothing": (classmethod, "(cls, outs)"),
            "__or__": "(self, other)",
            "__rshift__": "(self, other)",
            "repeated": "(self)",
            "may_replace": "(self, other)",
            "__eq__": "(self, other)",
        },
    },
    errors: {
        "LivesError": {"__init__": "(self, what)"},
        "DeadLook": {"__init__": "(self, row, what)"},
    },
}


class InterfaceTest(unittest.TestCase):
    def check_member(self, owner, name, expected):
        self.assertIn(name, vars(owner))
        member = vars(owner)[name]
        if expected is property:
            self.assertIsInstance(member, property)
        elif isinstance(expected, tuple):
            self.assertIsInstance(member, expected[0])
            self.assertEqual(str(inspect.signature(member.__func__)), expected[1])
        elif isinstance(expected, str):
            self.assertTrue(inspect.isfunction(member))
            self.assertEqual(str(inspect.signature(member)), expected)
        else:
            self.assertEqual(member, expected)

    def test_functions(self):
        for module, functions in FUNCTIONS.items():
            for name, arguments in functions.items():
                with self.subTest(module=module.__name__, name=name):
                    function = getattr(module, name)
                    self.assertEqual(function.__module__, module.__name__)
                    self.assertEqual(str(inspect.signature(function)), arguments)

    def test_classes(self):
        for module, classes in CLASSES.items():
            for name, members in classes.items():
                owner = getattr(module, name)
                self.assertEqual(owner.__module__, module.__name__)
                for member, expected in members.items():
                    with self.subTest(owner=name, member=member):
                        self.check_member(owner, member, expected)

    def test_errors_are_defined_in_their_file(self):
        for error in [errors.LivesError] + errors.LivesError.__subclasses__():
            self.assertEqual(error.__module__, "unnamedlives.errors")
            self.assertIs(getattr(errors, error.__name__), error)


if __name__ == "__main__":
    unittest.main()
