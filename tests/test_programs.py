import random
import unittest

from kinds import LOOSE_KEYS, same
from making import some_program
from unnamedlives.errors import (
    DuplicateFunction, DuplicateName, InvalidLine, LivesError, NoPlace, NotReference, TooLarge, Unbalanced,
    UnknownFunction, UnknownName, WrongCount,
)
from unnamedlives.expressions import Expression
from unnamedlives.programs import Program
from unnamedlives.rows import Row
from unnamedlives.signatures import Book, Signature

BOOK = Book(Signature("f", 1, sources=(1,)), Signature("g", 2))


def rows(*texts):
    return [Row.read(text) for text in texts]


def numbered(letter, first, last):
    return [f"{letter}{number}" for number in range(first, last + 1)]


class Due(Exception):
    """What is due first: the name of an error and what it is about."""


def check(book, outs, lines):
    """Raises what is due first in a program; each scope is a list of names of its own."""
    if len(lines) > 48:
        raise Due("TooLarge", "rows")
    kinds = {}
    for name in outs:
        if name in kinds:
            raise Due("DuplicateName", name)
        kinds[name] = "out"
    if len(outs) > 16:
        raise Due("TooLarge", "names")
    frames = [("program", list(outs))]
    total = 0
    for k, row in enumerate(lines, start=1):
        if row.kind in ("block", "if", "loop"):
            if len(frames) >= 8:
                raise Due("TooLarge", "depth")
            frames.append((row.kind, []))
        elif row.kind == "else":
            if frames[-1][0] != "if":
                raise Due("Unbalanced", k)
            frames[-1] = ("else", [])
        elif row.kind == "end":
            if len(frames) == 1:
                raise Due("Unbalanced", k)
            frames.pop()
        else:
            total += len(row.expression.nodes)
            if total > 100:
                raise Due("TooLarge", "nodes")
            scope = [name for _, names in frames for name in names]
            check_expression(book, scope, row.expression.nodes)
            check_name(kinds, scope, row)
            if row.kind in ("val", "ref"):
                kinds[row.name] = row.kind
                frames[-1][1].append(row.name)
    if len(frames) > 1:
        raise Due("Unbalanced", len(lines) + 1)


def check_expression(book, scope, nodes):
    counts = {signature.name: signature.count for signature in book}
    for node in nodes:
        if node[0] == "name" and node[1] not in scope:
            raise Due("UnknownName", node[1])
        if node[0] == "call" and node[1] not in counts:
            raise Due("UnknownFunction", node[1])
        if node[0] == "call" and len(node[2]) != counts[node[1]]:
            raise Due("WrongCount", node[1])


def check_name(kinds, scope, row):
    if row.kind == "set" and row.name not in scope:
        raise Due("UnknownName", row.name)
    if row.kind == "set" and kinds[row.name] == "val":
        raise Due("NotReference", row.name)
    if row.kind in ("val", "ref") and row.name in kinds:
        raise Due("DuplicateName", row.name)
    if row.kind in ("val", "ref") and len(kinds) == 16:
        raise Due("TooLarge", "names")


class ProgramCase(unittest.TestCase):
    def refused(self, error, what, outs, *texts, book=BOOK):
        with self.subTest(outs=outs, texts=texts):
            with self.assertRaises(error) as caught:
                Program(book, outs, rows(*texts))
            self.assertIs(type(caught.exception), error)
            self.assertEqual(caught.exception.what, what)

    def fine(self, outs, *texts, book=BOOK):
        program = Program(book, outs, rows(*texts))
        self.assertEqual([row.text() for row in program], list(texts))
        return program


class BoundsTest(ProgramCase):
    def test_class_values(self):
        self.assertEqual(
            [Program.MOST_ROWS, Program.MOST_NAMES, Program.MOST_NODES, Program.MOST_DEPTH], [48, 16, 100, 8]
        )

    def test_rows(self):
        self.assertEqual(len(self.fine(["a"], *["use a"] * 48)), 48)
        self.assertEqual(len(self.fine([], *["block", "end"] * 24)), 48)
        self.refused(TooLarge, "rows", ["a"], *["use a"] * 49)
        self.refused(TooLarge, "rows", ["a"], *["use a"] * 300)
        self.refused(TooLarge, "rows", ["a"], *["end"] * 49)
        self.refused(TooLarge, "rows", ["a", "a"], *["use b"] * 49)
        self.refused(TooLarge, "rows", numbered("a", 1, 17), *["use b"] * 49)
        self.refused(UnknownName, "b", ["a"], *["use b"] * 48)

    def test_outs(self):
        self.assertEqual(self.fine(numbered("a", 1, 16)).names(), numbered("a", 1, 16))
        self.refused(TooLarge, "names", numbered("a", 1, 17))
        self.refused(TooLarge, "names", numbered("a", 1, 40), "end")
        self.refused(DuplicateName, "a", ["a", "a"])
        self.refused(DuplicateName, "b", ["a", "b", "c", "b", "a"])
        self.refused(DuplicateName, "a1", numbered("a", 1, 16) + ["a1"])
        self.refused(DuplicateName, "a3", numbered("a", 1, 20) + ["a3", "a1"], "end")

    def test_names(self):
        outs = numbered("a", 1, 10)
        declared = [f"ref b{k} = a1" for k in range(1, 4)] + [f"val c{k} = a1" for k in range(1, 4)]
        program = self.fine(outs, *declared)
        self.assertEqual(len(program.names()), 16)
        for more in ["ref d = a1", "val d = a1"]:
            self.refused(TooLarge, "names", outs, *declared, more)
            self.refused(TooLarge, "names", outs, *declared, "block", more, "end")
            self.refused(TooLarge, "names", outs, "block", *declared, "end", more)
        self.fine(outs, *declared, "set b1 = c1", "use b1")
        self.fine([], *[f"val c{k} = new()" for k in range(16)])
        self.refused(TooLarge, "names", [], *[f"val c{k} = new()" for k in range(17)])

    def test_nodes(self):
        twenty = "part(" * 19 + "a" + ")" * 19
        self.fine(["a"], *["use " + twenty] * 5)
        self.refused(TooLarge, "nodes", ["a"], *["use " + twenty] * 5, "use a")
        self.refused(TooLarge, "nodes", ["a"], *["use " + twenty] * 5, "use b")
        self.refused(TooLarge, "nodes", ["a"], *["use " + twenty] * 4, "use a", "ref x = " + twenty)
        self.refused(TooLarge, "nodes", ["a"], *["use " + twenty] * 4, "use a", "ref x = " + twenty.replace("a)", "b)"))
        self.refused(UnknownName, "b", ["a"], *["use " + twenty] * 4, "use b", "ref x = " + twenty)
        self.fine(["a"], *["use " + twenty] * 4, "use a", "ref x = part(" + "part(" * 17 + "a" + ")" * 18)
        self.fine(["a"], *["use " + twenty] * 5, "block", "end")

    def test_depth(self):
        for kind in ["block", "if", "loop"]:
            self.fine(["a"], *[kind] * 7, "use a", *["end"] * 7)
            self.fine(["a"], *[kind] * 7, "end", kind, *["end"] * 7)
            self.refused(TooLarge, "depth", ["a"], *[kind] * 8, *["end"] * 8)
            self.refused(TooLarge, "depth", ["a"], *[kind] * 8)
            self.refused(TooLarge, "depth", ["a"], *[kind] * 7, "end", "block", "if", "use b")
        self.fine([], *["if"] * 7, *["else", "end"] * 7)
        self.fine([], *["if", "else"] * 7, *["end"] * 7)
        self.refused(TooLarge, "depth", [], *["if", "else"] * 7, "if", *["end"] * 8)


class BalanceTest(ProgramCase):
    def test_else(self):
        self.fine([], "if", "else", "end")
        self.fine([], "if", "block", "end", "else", "loop", "end", "end")
        self.fine([], "if", "if", "else", "end", "else", "if", "else", "end", "end")
        self.refused(Unbalanced, 1, [], "else")
        self.refused(Unbalanced, 1, [], "else", "end")
        self.refused(Unbalanced, 2, [], "loop", "else", "end")
        self.refused(Unbalanced, 2, [], "block", "else", "end")
        self.refused(Unbalanced, 3, [], "if", "else", "else", "end")
        self.refused(Unbalanced, 3, [], "if", "loop", "else", "end", "end")
        self.refused(Unbalanced, 4, [], "if", "else", "block", "else", "end", "end")
        self.refused(Unbalanced, 3, [], "if", "end", "else", "end")
        self.refused(Unbalanced, 6, [], "if", "else", "if", "else", "end", "else", "end")

    def test_an_end_too_many(self):
        self.refused(Unbalanced, 1, [], "end")
        self.refused(Unbalanced, 3, [], "block", "end", "end")
        self.refused(Unbalanced, 4, [], "if", "else", "end", "end", "use b")
        self.refused(Unbalanced, 3, ["a"], "use a", "use a", "end", "use a")

    def test_an_open_block_at_the_end(self):
        for kind in ["block", "if", "loop"]:
            self.refused(Unbalanced, 2, [], kind)
            self.refused(Unbalanced, 4, [], kind, kind, "end")
        self.refused(Unbalanced, 3, [], "if", "else")
        self.refused(UnknownName, "b", [], "block", "use b")


class NamesTest(ProgramCase):
    def test_a_name_is_in_scope_from_the_next_row(self):
        for kind in ["ref", "val"]:
            self.fine([], f"{kind} x = new()", "use x")
            self.refused(UnknownName, "x", [], f"{kind} x = x")
            self.refused(UnknownName, "x", [], f"{kind} x = f(then(new(),x))")
            self.refused(UnknownName, "x", [], "use x", f"{kind} x = new()")
            self.refused(UnknownName, "x", [], "loop", "use x", f"{kind} x = new()", "end")

    def test_a_name_is_in_scope_to_the_end_of_its_block(self):
        for kind in ["block", "loop", "if"]:
            self.fine([], kind, "val x = new()", "use x", "block", "use x", "end", "use x", "end")
            self.refused(UnknownName, "x", [], kind, "val x = new()", "end", "use x")
            self.refused(UnknownName, "x", [], kind, "ref x = new()", "end", "set x = new()")
            self.fine(["a"], "ref x = a", kind, "set x = a", "end", "use x")
        self.refused(UnknownName, "x", [], "if", "val x = new()", "else", "use x", "end")
        self.refused(UnknownName, "x", [], "if", "else", "val x = new()", "end", "use x")
        self.fine(["a"], "if", "use a", "else", "use a", "set a = new()", "end", "use a")

    def test_a_program_that_is_not_balanced_has_the_names_of_its_open_blocks(self):
        self.refused(Unbalanced, 5, [], "block", "ref x = new()", "use x", "use x")

    def test_set(self):
        self.fine(["a"], "set a = new()", "ref x = a", "set x = x", "set a = x")
        self.refused(UnknownName, "x", ["a"], "set x = a")
        self.refused(NotReference, "x", ["a"], "val x = a", "set x = a")
        self.refused(UnknownName, "x", ["a"], "block", "val x = a", "end", "set x = a")
        self.refused(UnknownName, "y", ["a"], "val x = a", "set x = y")
        self.refused(UnknownName, "y", ["a"], "set x = y")
        self.refused(WrongCount, "f", ["a"], "val x = a", "set x = f()")

    def test_names_are_different(self):
        for kind in ["val", "ref"]:
            self.refused(DuplicateName, "a", ["a"], f"{kind} a = new()")
            self.refused(DuplicateName, "x", [], "val x = new()", f"{kind} x = new()")
            self.refused(DuplicateName, "x", [], "ref x = new()", "block", f"{kind} x = new()", "end")
            self.refused(DuplicateName, "x", [], "block", "ref x = new()", "end", f"{kind} x = new()")
            self.refused(
                DuplicateName, "x", [], "if", "val x = new()", "else", "block", f"{kind} x = new()", "end", "end"
            )
            self.refused(UnknownName, "y", ["a"], f"{kind} a = y")
            self.refused(DuplicateName, "f15", [], *[f"val f{k} = new()" for k in range(16)], f"{kind} f15 = new()")

    def test_functions_and_names_may_be_called_the_same(self):
        self.fine(["f", "new"], "use f(f)", "val g = g(new(),new)", "ref copy = f(copy(g))", "set new = copy(copy)")

    def test_functions(self):
        self.refused(UnknownFunction, "h", ["a"], "use h(a)")
        self.refused(UnknownFunction, "h", ["a"], "use a", "use g(h(a),h())")
        self.refused(UnknownFunction, "a", ["a"], "use a(a)")
        self.fine(["a"], "use g(f(a),copy(new()))")
        for count in range(5):
            inside = "(" + ",".join(["a"] * count) + ")"
            for name, right in [("new", 0), ("copy", 1), ("f", 1), ("g", 2)]:
                if count == right:
                    self.fine(["a"], "use " + name + inside)
                else:
                    self.refused(WrongCount, name, ["a"], "use " + name + inside)

    def test_the_first_node_at_which_an_error_is_due(self):
        self.refused(UnknownName, "x", ["a"], "use h(f(x),y,f())")
        self.refused(WrongCount, "f", ["a"], "use h(f(),y)")
        self.refused(UnknownFunction, "k", ["a"], "use h(k(a),y)")
        self.refused(UnknownName, "y", ["a"], "use h(a,y)")
        self.refused(UnknownFunction, "h", ["a"], "use f(h(a),a)")
        self.refused(WrongCount, "f", ["a"], "use h(f(a,a),a)")
        self.refused(UnknownName, "z", ["a"], "ref a = pick(then(a,part(z)),f(f()))")

    def test_rows_come_in_order(self):
        self.refused(UnknownName, "x", ["a"], "use x", "end", "else")
        self.refused(Unbalanced, 1, ["a"], "end", "use x")
        self.refused(DuplicateName, "a", ["a"], "ref a = a", "use x", "end")
        self.refused(WrongCount, "f", ["a"], "block", "use f()")


class PartsTest(ProgramCase):
    def test_example(self):
        p = Program.read("out a\nref x = a\nif\nset x = new()\nend\nuse x")
        self.assertEqual([len(p), p.names(), p.kind_of("x"), p.row_of("x"), p[3].text()],
                         [5, ["a", "x"], "ref", 1, "set x = new()"])

    def test_lists_are_copied(self):
        outs, lines = ["a", "b"], rows("use a", "ref x = b")
        program = Program(BOOK, outs, lines)
        outs.append("c")
        lines.clear()
        self.assertEqual([program.outs, len(program), program.names()], [("a", "b"), 2, ["a", "b", "x"]])
        self.assertEqual(program.text(), "fun f 1 1\nfun g 2\nout a b\nuse a\nref x = b")
        self.assertIs(type(program.outs), tuple)
        program = Program(BOOK, ("a", "b"), tuple(rows("use a")))
        self.assertEqual([program.outs, len(program)], [("a", "b"), 1])

    def test_arguments_are_not_modified(self):
        outs, lines = ["a", "b"], rows("use a", "ref x = b")
        Program(BOOK, outs, lines)
        self.assertEqual([outs, [row.text() for row in lines]], [["a", "b"], ["use a", "ref x = b"]])

    def test_book(self):
        program = Program(BOOK, [], [])
        self.assertEqual([signature.text() for signature in program.book], [signature.text() for signature in BOOK])

    def test_rows(self):
        program = Program.read("out a\nuse a\nblock\nend")
        self.assertEqual([len(program), program[1].text(), program[2].text(), program[3].text()],
                         [3, "use a", "block", "end"])
        self.assertEqual([row.text() for row in program], ["use a", "block", "end"])
        self.assertEqual([row.text() for row in program], ["use a", "block", "end"])
        for k in [0, 4, 5, -1, -3] + [key for key in LOOSE_KEYS if key not in (1, 2) or key is True]:
            with self.assertRaises(NoPlace) as caught:
                program[k]
            self.assertTrue(same(caught.exception.what, k))
        for k in [0, 1, -1]:
            with self.assertRaises(NoPlace):
                Program(BOOK, [], [])[k]
        self.assertEqual(list(Program(BOOK, [], [])), [])

    def test_names(self):
        program = Program.read("out b a\nval z = a\nif\nref c = z\nelse\nval y = new()\nend\nref d = a\nset d = b")
        self.assertEqual(program.names(), ["b", "a", "z", "c", "y", "d"])
        self.assertEqual([program.kind_of(name) for name in program.names()],
                         ["out", "out", "val", "ref", "val", "ref"])
        self.assertEqual([program.row_of(name) for name in program.names()], [0, 0, 1, 3, 5, 7])
        program.names().append("q")
        self.assertEqual(program.names(), ["b", "a", "z", "c", "y", "d"])
        for name in LOOSE_KEYS + ["q", "new", "A", "a "]:
            for ask in [program.kind_of, program.row_of]:
                with self.assertRaises(UnknownName) as caught:
                    ask(name)
                self.assertTrue(same(caught.exception.what, name))

    def test_equal(self):
        texts = ["", "out a", "out b", "out a b", "out b a", "out a\nuse a", "fun f 1", "fun f 1 1", "block\nend",
                 "fun f 1\nfun g 1", "fun g 1\nfun f 1", "out a\nuse a\nuse a"]
        for one in texts:
            for other in texts:
                self.assertIs(Program.read(one) == Program.read(other), one == other)
                self.assertIs(Program.read(one) != Program.read(other), one != other)
            for thing in [one, None, True, 0, [], BOOK]:
                self.assertIs(Program.read(one) == thing, False)
                self.assertIs(thing == Program.read(one), False)
        program = Program(Book(Signature("f", 1)), ["a"], rows("use f(a)"))
        self.assertIs(program == Program.read("fun f 1\nout a\nuse f(a)"), True)


class TextTest(unittest.TestCase):
    def right(self, text):
        program = Program.read(text)
        self.assertIsInstance(program, Program)
        self.assertEqual(program.text(), text)
        self.assertIs(program == Program.read(text), True)
        return program

    def wrong(self, j, text):
        with self.subTest(text=text):
            with self.assertRaises(InvalidLine) as caught:
                Program.read(text)
            self.assertEqual(caught.exception.what, j)

    def refused(self, error, what, text):
        with self.subTest(text=text):
            with self.assertRaises(error) as caught:
                Program.read(text)
            self.assertIs(type(caught.exception), error)
            self.assertEqual(caught.exception.what, what)

    def test_examples(self):
        self.refused(UnknownName, "a", "block\nval a = new()\nend\nuse a")
        self.wrong(2, "use new()\nfun f 0")

    def test_right_texts(self):
        empty = self.right("")
        self.assertEqual([len(empty), empty.outs, len(empty.book), empty.names()], [0, (), 2, []])
        self.right("fun f 1 1")
        self.right("out a")
        self.right("out a b c")
        self.right("use new()")
        self.right("fun f 1 1\nfun g 4 1 2 3 4\nout x y\nif\nset x = f(y)\nelse\nloop\nend\nend\nval z = g(x,y,x,y)")
        self.right("fun b 0\nfun a 0")
        self.right("out b a")

    def test_by_chance(self):
        chance = random.Random(1)
        for _ in range(200):
            text = some_program(chance, chance.randint(0, 14), outs=("b", "a")[:chance.randint(0, 2)])
            program = self.right(text)
            self.assertIs(program == Program(program.book, program.outs, list(program)), True)

    def test_order_of_lines(self):
        self.wrong(2, "out a\nfun f 0")
        self.wrong(2, "out a\nout b")
        self.wrong(2, "use new()\nout a")
        self.wrong(3, "out a\nuse a\nout b")
        self.wrong(3, "out a\nuse a\nfun f 1")
        self.wrong(3, "fun f 0\nblock\nfun g 0\nend")
        self.wrong(4, "fun f 0\nout a\nblock\nout b\nend")

    def test_wrong_signatures(self):
        for line in ["fun ", "fun f", "fun f 5", "fun f 1 2", "fun f 2 2 1", "fun f 0 ", "fun  f 0", "fun F 0",
                     "fun use 0", "fun f 01", "fun", "funf 0", "Fun f 0", " fun f 0", "fun\tf 0", "fun f 0\r"]:
            self.wrong(1, line)
            self.wrong(2, "fun g 0\n" + line)
            self.wrong(1, line + "\nuse new()")

    def test_wrong_outs(self):
        for line in ["out ", "out", "out  a", "out a ", "out a  b", "out A", "out a B", "out 1", "out use", "out a,b",
                     "out a b dead", "outa", " out a", "Out a", "out\ta", "out a\t", "out abcdefghi", "out a\r"]:
            self.wrong(1, line)
            self.wrong(2, "fun g 0\n" + line)
            self.wrong(1, line + "\nuse new()")

    def test_wrong_rows(self):
        for line in ["", " ", "use", "use ", "use x ", " use x", "use  x", "x", "end ", "val x =new()", "else if",
                     "use x\r", "use f(x,)", "set X = x", "ref x := x"]:
            if line != "":
                self.wrong(1, line)
            self.wrong(2, "block\n" + line)
            self.wrong(2, "block\n" + line + "\nend")
            self.wrong(3, "fun f 0\nout a\n" + line)

    def test_a_line_feed_too_many(self):
        text = "fun f 1\nout a\nuse a"
        self.wrong(4, text + "\n")
        self.wrong(1, "\n" + text)
        self.wrong(2, text.replace("\n", "\n\n", 1))
        self.wrong(1, "\n")
        self.wrong(2, "out a\n")
        self.wrong(2, "fun f 0\n")
        self.wrong(1, "use new()\r\nuse new()")
        self.wrong(1, "use new()\x0buse new()")

    def test_the_first_wrong_line(self):
        more = "use " + "part(" * 20 + "a" + ")" * 20
        self.refused(TooLarge, "nodes", "out a\n" + more)
        self.refused(TooLarge, "nodes", "out a\n" + more + "\nx")
        self.refused(TooLarge, "nodes", more + "\nout a\nfun f 9")
        self.wrong(2, "out a\nx\n" + more)
        self.wrong(1, more + " ")
        self.wrong(2, "use a\nx\ny")

    def test_lines_come_before_everything_else(self):
        self.wrong(4, "fun f 0\nfun f 0\nend\nx")
        self.wrong(2, "use q\nx")
        self.wrong(14, "\n".join([f"fun f{k} 0" for k in range(13)] + ["x"]))
        self.wrong(60, "\n".join(["end"] * 59 + ["x"]))
        self.refused(TooLarge, "nodes", "end\nuse " + "part(" * 20 + "a" + ")" * 20)

    def test_books_come_before_programs(self):
        self.refused(DuplicateFunction, "f", "fun f 0\nfun f 1\nend")
        self.refused(DuplicateFunction, "new", "fun new 0\nout a a")
        self.refused(TooLarge, "functions", "\n".join([f"fun f{k} 0" for k in range(13)] + ["end"]))
        self.refused(TooLarge, "rows", "\n".join(["out a a"] + ["end"] * 49))
        self.refused(DuplicateName, "a", "fun f 0\nout a a\nend")
        self.refused(TooLarge, "names", "out " + " ".join(numbered("a", 1, 17)) + "\nend")
        self.right("\n".join([f"fun f{k} 0" for k in range(12)]))

    def test_long_texts(self):
        self.refused(TooLarge, "rows", "\n".join(["use new()"] * 200))
        self.wrong(200, "\n".join(["use new()"] * 199 + ["new()"]))
        self.right("\n".join(["use new()"] * 48))


class SeveralErrorsTest(unittest.TestCase):
    PIECES = [
        "use a", "use x", "use f(a)", "use f()", "use h(x)", "use g(a,x)", "val x = a", "ref x = a", "val y = new()",
        "ref y = x", "set x = a", "set y = x", "set a = y", "ref a = y", "block", "if", "loop", "else", "end", "end",
        "set q = g(f(x),f(y))", "val z = pick(x,then(y,h()))", "if", "else", "end",
    ]

    def agrees(self, outs, lines):
        try:
            check(BOOK, outs, lines)
            due = None
        except Due as error:
            due = error.args
        try:
            Program(BOOK, outs, lines)
            got = None
        except LivesError as error:
            got = (type(error).__name__, error.what)
        self.assertEqual(got, due, [outs, [row.text() for row in lines]])
        return due

    def test_by_chance(self):
        chance = random.Random(2)
        seen = set()
        for _ in range(6000):
            lines = rows(*[chance.choice(self.PIECES) for _ in range(chance.randint(0, 9))])
            due = self.agrees([["a"], ["a", "x"], ["y", "x", "a"], ["a", "a"]][chance.choice([0, 0, 1, 2, 3])], lines)
            seen.add(due and due[0])
        self.assertEqual(seen, {None, "DuplicateName", "UnknownName", "UnknownFunction", "WrongCount", "NotReference",
                                "Unbalanced"})

    def test_a_row_changed_by_chance(self):
        chance = random.Random(3)
        for _ in range(1500):
            lines = [row.text() for row in Program.read(some_program(chance, 14, nodes=9)) if row.text() != "q"]
            at = chance.randrange(len(lines) + 1)
            lines[at:at + chance.randint(0, 2)] = [chance.choice(self.PIECES) for _ in range(chance.randint(0, 2))]
            self.agrees(["a", "b"], rows(*lines))

    def test_large_programs(self):
        chance = random.Random(4)
        seen = set()
        for _ in range(600):
            lines = []
            for k in range(chance.randint(30, 50)):
                lines.append(chance.choice([f"val v{k} = a", f"ref r{k} = a", "use a", "block", "if", "end", "loop",
                                            "use g(f(f(a)),f(part(f(a))))", "use part(part(part(a)))"]))
            due = self.agrees(["a"], rows(*["block"] * chance.randint(0, 6), *lines[:45]))
            seen.add(due)
        for what in ["rows", "names", "nodes", "depth"]:
            self.assertIn(("TooLarge", what), seen)


class ExpressionsOfRowsTest(unittest.TestCase):
    def test_rows_keep_their_expressions(self):
        program = Program.read("out a\nuse a\nval x = f(a)".replace("f(a)", "copy(a)"))
        self.assertEqual(program[2].expression, Expression.read("copy(a)"))
        self.assertEqual(program[2], Row.read("val x = copy(a)"))


if __name__ == "__main__":
    unittest.main()
