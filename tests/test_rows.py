import unittest

from kinds import HUGE, LOOSE_KEYS, NO_STRINGS, same
from unnamedlives.errors import InvalidRow, TooLarge
from unnamedlives.expressions import Expression
from unnamedlives.rows import Row
from unnamedlives.words import RESERVED

KINDS = ["use", "val", "ref", "set", "block", "if", "else", "loop", "end"]
BARE = ["block", "if", "else", "loop", "end"]
NO_NAMES = ["X", "1", "1x", "abcdefghi", "x ", " x", "x\n", "x_", "-", "x.y", "\u00e9"] + list(RESERVED)


class MakeTest(unittest.TestCase):
    def setUp(self):
        self.expression = Expression.read("f(x)")

    def refused(self, kind, **more):
        with self.subTest(kind=str(kind), more=str(more)):
            with self.assertRaises(InvalidRow) as caught:
                Row(kind, **more)
            self.assertTrue(same(caught.exception.what, kind))

    def test_the_right_parts(self):
        for kind in KINDS:
            for name in ["", "x"]:
                for expression in [None, self.expression]:
                    wanted = (kind in ("val", "ref", "set"), kind not in BARE)
                    if wanted != (name != "", expression is not None):
                        self.refused(kind, name=name, expression=expression)
                        continue
                    row = Row(kind, name=name, expression=expression)
                    self.assertEqual([row.kind, row.name, row.expression], [kind, name, expression])

    def test_default_values(self):
        for kind in BARE:
            row = Row(kind)
            self.assertEqual([row.kind, row.name, row.expression], [kind, "", None])
        row = Row("use", expression=self.expression)
        self.assertEqual([row.kind, row.name, row.expression], ["use", "", self.expression])
        for kind in ["use", "val", "ref", "set"]:
            self.refused(kind)
        for kind in ["val", "ref", "set"]:
            self.refused(kind, name="x")
            self.refused(kind, expression=self.expression)

    def test_name_and_expression_are_passed_by_keyword(self):
        with self.assertRaises(TypeError):
            Row("val", "x", self.expression)

    def test_no_kinds(self):
        for kind in NO_STRINGS + ["", "Use", "use ", "u", "blocks", "then", "part", "x", "fun", "out", "block\n", "lo"]:
            self.refused(kind)
            self.refused(kind, expression=self.expression)
            self.refused(kind, name="x", expression=self.expression)

    def test_no_names(self):
        for name in NO_NAMES + NO_STRINGS + [""]:
            for kind in ["val", "ref", "set"]:
                self.refused(kind, name=name, expression=self.expression)
        for name in NO_NAMES + NO_STRINGS + ["x"]:
            self.refused("use", name=name, expression=self.expression)
            for kind in BARE:
                self.refused(kind, name=name)

    def test_no_expressions(self):
        for thing in NO_STRINGS + ["", "x", "f(x)", Row("block")]:
            if thing is not None:
                for kind in BARE:
                    self.refused(kind, expression=thing)
            self.refused("use", expression=thing)
            for kind in ["val", "ref", "set"]:
                self.refused(kind, name="x", expression=thing)


class TextTest(unittest.TestCase):
    TEXTS = [
        "use x", "use f(x,new())", "val x = y", "ref abcdefgh = part(x)", "set a1 = pick(x,y)", "val x = x",
        "ref new = new()", "block", "if", "else", "loop", "end",
    ]

    def wrong(self, text):
        with self.subTest(text=text):
            with self.assertRaises(InvalidRow) as caught:
                Row.read(text)
            self.assertEqual(caught.exception.what, text)

    def test_read_and_text(self):
        for text in self.TEXTS:
            row = Row.read(text)
            self.assertIsInstance(row, Row)
            self.assertEqual(row.text(), text)

    def test_parts(self):
        row = Row.read("set x = f(y)")
        self.assertEqual([row.kind, row.name, row.expression.nodes], ["set", "x", Expression.read("f(y)").nodes])
        row = Row.read("use part(x)")
        self.assertEqual([row.kind, row.name, row.expression.text()], ["use", "", "part(x)"])
        row = Row.read("else")
        self.assertEqual([row.kind, row.name, row.expression], ["else", "", None])

    def test_a_line_feed_or_a_space_too_many(self):
        for text in self.TEXTS:
            for sign in [" ", "\n", "\t", "=", ";"]:
                for at in range(len(text) + 1):
                    self.wrong(text[:at] + sign + text[at:])

    def test_a_sign_too_few(self):
        for text in self.TEXTS:
            for at in range(len(text)):
                less = text[:at] + text[at + 1:]
                if text[at] in " =()," and less != "use f(xnew())":
                    self.wrong(less)

    def test_no_rows(self):
        for text in [
            "", " ", "x", "use", "use ", "use  x", "use x y", "use x = y", "use = x", "val", "val x", "val x =",
            "val x = ", "val = y", "val  = y", "val x= y", "val x =y", "val x=y", "val x  = y", "val x =  y",
            "val x = y = z", "val x y = z", "set x", "set x y", "ref x : y", "ref x == y", "end use x", "block x",
            "block = x", "if x", "else if", "loop x = y", "end end", "fun f 0", "out a", "out", "fun", "then x",
            "part(x)", "new()", "Use x", "USE x", "val X = x", "val 1 = x", "val abcdefghi = x", "use X", "use 1",
            "use f(x", "use f(x))", "use pick(x)", "use use", "val x = val", "let x = y", "vals x = y", "us x",
        ]:
            self.wrong(text)
        for name in NO_NAMES:
            for kind in ["val", "ref", "set"]:
                self.wrong(f"{kind} {name} = x")

    def test_other_line_ends(self):
        for sign in ["\r", "\x0b", "\x0c", "\u2028", "\u00a0"]:
            self.wrong("block" + sign)
            self.wrong("use" + sign + "x")
            self.wrong("use x" + sign)

    def test_twenty_and_twenty_one_nodes(self):
        most = "part(" * 19 + "x" + ")" * 19
        more = f"part({most})"
        for head in ["use ", "val x = ", "ref x = ", "set x = "]:
            self.assertEqual(Row.read(head + most).text(), head + most)
            with self.assertRaises(TooLarge) as caught:
                Row.read(head + more)
            self.assertEqual(caught.exception.what, "nodes")

    def test_a_wrong_row_with_too_many_nodes(self):
        more = "part(" * 20 + "x" + ")" * 20
        for text in [
            more, "use " + more + " ", "use  " + more, "val " + more, "val X = " + more, "val dead = " + more,
            "block " + more, "let x = " + more, "ref x= " + more, "set x = " + more + ")", "set 1 = " + more,
            "use x = " + more, "end = " + more, "fun = " + more, "val = " + more, " use " + more,
        ]:
            self.wrong(text)


class EqualTest(unittest.TestCase):
    def test_equal(self):
        texts = ["use x", "use y", "val x = y", "ref x = y", "val y = y", "val x = x", "block", "end", "if", "loop"]
        for one in texts:
            for other in texts:
                self.assertIs(Row.read(one) == Row.read(other), one == other)
                self.assertIs(Row.read(one) != Row.read(other), one != other)
        self.assertIs(Row("use", expression=Expression.read("x")) == Row.read("use x"), True)

    def test_other_kinds(self):
        for text in ["use x", "block", "val x = y"]:
            for other in [text, None, True, 1, [text], Expression.read("x")]:
                self.assertIs(Row.read(text) == other, False)
                self.assertIs(other == Row.read(text), False)

    def test_keys(self):
        for thing in LOOSE_KEYS + [HUGE]:
            self.assertIs(Row("block") == thing, False)


if __name__ == "__main__":
    unittest.main()
