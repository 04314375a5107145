import unittest

from unnamedlives import errors
from unnamedlives.errors import DeadLook, LivesError

NAMES = [
    "InvalidSignature", "DuplicateFunction", "UnknownFunction", "InvalidExpression", "InvalidRow", "InvalidLine",
    "UnknownName", "DuplicateName", "NotReference", "WrongCount", "Unbalanced", "TooLarge", "BadChoice", "Ended",
    "NoPlace", "NoValue", "NeverTogether", "NoFact", "NoWay", "NotLoose", "NoMend", "OtherOuts",
]


class ErrorsTest(unittest.TestCase):
    def test_base_class(self):
        self.assertEqual(LivesError.__bases__, (ValueError,))
        self.assertEqual(LivesError("x").what, "x")

    def test_every_error_is_derived_directly(self):
        for name in NAMES + ["DeadLook"]:
            with self.subTest(name):
                self.assertEqual(getattr(errors, name).__bases__, (LivesError,))

    def test_there_are_23_beneath_the_base_class(self):
        self.assertEqual(sorted(each.__name__ for each in LivesError.__subclasses__()), sorted(NAMES + ["DeadLook"]))
        self.assertEqual(len(NAMES) + 1, 23)

    def test_every_error_is_made_with_what(self):
        for name in NAMES + ["LivesError"]:
            error = getattr(errors, name)
            for what in ["", "x", 0, -3, 10 ** 39, None, True, False, (1, "x", "1.0"), [1, [2]], {"a": ["b"]}]:
                with self.subTest(name=name, what=what):
                    self.assertEqual(error(what).what, what)
                    self.assertIs(type(error(what).what), type(what))
                    self.assertEqual(error(what=what).what, what)
            with self.assertRaises(TypeError):
                error()
            with self.assertRaises(TypeError):
                error(1, 2)

    def test_an_error_can_be_raised_and_caught_as_a_value_error(self):
        for name in NAMES:
            with self.assertRaises(ValueError) as caught:
                raise getattr(errors, name)(7)
            self.assertEqual(caught.exception.what, 7)

    def test_dead_look(self):
        error = DeadLook(2, "1.0")
        self.assertEqual((error.row, error.what), (2, "1.0"))
        error = DeadLook(what="a", row=48)
        self.assertEqual((error.row, error.what), (48, "a"))
        with self.assertRaises(TypeError):
            DeadLook("1.0")
        with self.assertRaises(TypeError):
            DeadLook(1, 2, 3)

    def test_other_errors_have_no_row(self):
        for name in NAMES + ["LivesError"]:
            self.assertFalse(hasattr(getattr(errors, name)(1), "row"))

    def test_lists_and_dicts_are_copied(self):
        inner = [1]
        for what in [[inner], (inner,), {"a": inner}, [(inner,)], [{"a": inner}]]:
            for error in [LivesError(what), errors.BadChoice(what), DeadLook(1, what)]:
                inner.append(2)
                self.assertNotEqual(error.what, what)
                inner.pop()
                self.assertEqual(error.what, what)
        outer = [0, 1]
        error = errors.BadChoice(outer)
        error.what.append(2)
        self.assertEqual(outer, [0, 1])
        table = {"a": 1}
        error = LivesError(table)
        error.what["b"] = 2
        self.assertEqual(table, {"a": 1})

    def test_a_list_that_contains_itself(self):
        what = []
        what.append(what)
        self.assertEqual(len(LivesError(what).what), 1)

    def test_a_list_that_is_nested_deep(self):
        what = []
        for _ in range(5000):
            what = [what]
        self.assertEqual(len(LivesError(what).what), 1)


if __name__ == "__main__":
    unittest.main()
