import random
import unittest

from cases import Case
from exploring import Runs
from kinds import HUGE, LOOSE_KEYS
from making import full_program, some_pairs, some_programs
from unnamedlives.effects import Effect
from unnamedlives.errors import DuplicateFunction, DuplicateName, LivesError, NoPlace, NotReference, TooLarge, UnknownName
from unnamedlives.layout import in_scope
from unnamedlives.pieces import effect, effect_by_parts, inserted
from unnamedlives.programs import Program
from unnamedlives.tables import explore

DEAD = ("dead",)


def parts(effect):
    """All that an effect tells, without its outs."""
    return effect.faulty, effect.looks, {out: effect.gives(out) for out in effect.outs}


def joined(piece, *lines):
    """The piece with these lines, or with the rows of pieces among them."""
    rows = [row for line in lines for row in ([line] if isinstance(line, str) else [row.text() for row in line])]
    head = [signature.text() for signature in list(piece.book)[2:]]
    if piece.outs:
        head.append("out " + " ".join(piece.outs))
    return Program.read("\n".join(head + rows))


class EffectOfPiecesTest(Case):
    def check(self, text, looks, faulty=False, **gives):
        p = Program.read(text)
        outs = {out: (out,) for out in p.outs}
        expected = faulty, looks, {out: DEAD for out in outs} if faulty else {**outs, **gives}
        for function in [effect, effect_by_parts]:
            e = function(p)
            self.assertIs(type(e), Effect)
            self.assertEqual(e.outs, p.outs)
            self.assertEqual(parts(e), expected, (text, function.__name__))

    def test_example(self):
        p = Program.read("out a b\nref t = a\nset a = b\nset b = t")
        s = Program.read("val v = new()\nref a = v\nref b = a")
        self.assertEqual([effect(p).gives("a"), effect(p).looks, inserted(s, 4, p).text()], [
            ("b",), (), "val v = new()\nref a = v\nref b = a\nblock\nref t = a\nset a = b\nset b = t\nend"])

    def test_the_empty_piece(self):
        self.check("", ())
        self.check("out a", ())
        self.check("out b a", ())
        self.assertTrue(effect(Program.read("out b a")) == Effect.nothing(["b", "a"]))

    def test_pieces_without_outs(self):
        self.check("use new()", ())
        self.check("ref x = copy(new())\nuse x\nloop\nset x = x\nend", ())
        self.check("fun f 1 1\nref x = f(new())\nuse x", (), faulty=True)

    def test_looks(self):
        for row, looks in [("use a", ("a",)), ("val v = pick(b,a)", ("a", "b")), ("ref x = a", ()), ("set a = b", ()),
                           ("ref x = copy(b)", ("b",)), ("use then(a,b)", ("b",)), ("use part(a)", ("a",)),
                           ("ref x = f(pick(a,new()))", ("a",)), ("use then(f(a),new())", ("a",)), ("use new()", ())]:
            self.check(f"fun f 1 1\nout b a\n{row}", looks, **({"a": ("b",)} if row.startswith("set") else {}))

    def test_looks_by_other_names(self):
        self.check("out a b\nref x = b\nuse x", ("b",))
        self.check("out a b\nset a = b\nuse a", ("b",), a=("b",))
        self.check("out a b\nset a = pick(a,b)\nval v = a", ("a", "b"), a=("a", "b"))
        self.check("out a b\nval v = new()\nset a = v\nuse a", (), a=DEAD)
        self.check("out a b\nval v = b\nuse v", ("b",))

    def test_what_the_outs_give(self):
        self.check("out a b c\nset a = b\nset b = c", (), a=("b",), b=("c",))
        self.check("out a b c\nif\nset a = b\nelse\nset a = c\nend", (), a=("b", "c"))
        self.check("out a b c\nif\nset a = b\nset b = c\nend", (), a=("a", "b"), b=("b", "c"))
        self.check("out a b c\nloop\nset a = b\nset b = c\nend", (), a=("a", "b", "c"), b=("b", "c"))

    def test_values_of_the_piece_give_dead(self):
        for row in ["set a = v", "set a = new()", "set a = pick(a,v)", "set a = pick(b,new())", "set a = f(new())",
                    "ref x = new()\nset a = x", "ref x = f(new())\nset a = pick(x,b)",
                    "block\nval w = b\nset a = pick(a,w)\nend", "block\nset a = new()\nend"]:
            looks = ("b",) if "w" in row.split() else ()
            self.check(f"fun f 1 1\nout b a\nval v = new()\n{row}", looks, a=DEAD)

    def test_faulty_pieces(self):
        for rows in ["set a = new()\nuse a", "block\nval v = new()\nset b = v\nend\nif\nuse b\nelse\nend",
                     "loop\nuse a\nset a = b\nset b = new()\nend", "ref x = f(new())\nblock\nblock\nval v = x\nend\nend",
                     "loop\nval v = new()\nuse a\nset a = v\nend", "ref x = b\nloop\nset b = f(x)\nset x = new()\nend",
                     "if\nset a = new()\nelse\nset a = b\nend\nuse a", "block\nref x = new()\nset a = x\nend\nuse a"]:
            self.check(f"fun f 1 1\nout b a\n{rows}", (), faulty=True)

    def test_extended_temporaries(self):
        self.check("out a\nblock\nref x = new()\nset a = x\nuse a\nend", (), a=DEAD)
        self.check("out a b\nblock\nref x = pick(new(),b)\nblock\nset a = x\nend\nuse a\nset a = b\nend", ("b",), a=("b",))
        self.check("out a b\nloop\nref x = pick(new(),b)\nset b = x\nuse b\nend", (), faulty=True)
        self.check("out a b\nloop\nref x = pick(new(),b)\nset a = x\nuse a\nend", ("b",), a=DEAD)

    def test_values_of_outer_blocks(self):
        self.check("out a b\nblock\nval v = a\nblock\nset a = v\nend\nuse a\nset a = b\nend", ("a",), a=("b",))
        self.check("out a b\nval v = a\nloop\nset a = v\nuse a\nend\nset a = b", ("a",), a=("b",))
        self.check("out a b\nval v = a\nloop\nif\nset a = v\nelse\nuse a\nend\nend\nset a = b", ("a",), a=("b",))

    def test_references_declared_in_a_block(self):
        self.check("out a b\nblock\nref x = a\nset x = new()\nend\nblock\nref y = b\nuse y\nend", ("b",))
        self.check("out a b\nloop\nref x = a\nuse x\nset x = new()\nend", ("a",))
        self.check("out a b\nloop\nref x = b\nloop\nset a = x\nset x = new()\nend\nset a = b\nend", (), a=("a", "b"))
        self.check("out a b\nif\nref x = b\nset b = a\nset a = x\nelse\nref y = a\nset a = y\nend", (),
                   a=("a", "b"), b=("a", "b"))

    def test_loops_within_loops(self):
        text = "out a b c d\nloop\nset a = b\nloop\nset b = c\nloop\nset c = d\nend\nend\nend"
        self.check(text, (), a=("a", "b", "c", "d"), b=("b", "c", "d"), c=("c", "d"))
        self.check(text.replace("set a = b", "use a\nset a = b"), ("a", "b", "c", "d"), a=("a", "b", "c", "d"),
                   b=("b", "c", "d"), c=("c", "d"))
        self.check(text.replace("set a = b", "use a\nset a = b\nset d = new()"), (), faulty=True)
        self.check("\n".join(["out a b"] + ["loop"] * 7 + ["set a = b"] + ["end"] * 7), (), a=("a", "b"))

    def test_a_loop_that_is_faulty_in_its_second_round(self):
        self.check("out a\nloop\nval v = a\nset a = v\nend", (), faulty=True)
        self.check("out a\nval v = a\nset a = v", ("a",), a=DEAD)
        self.check("out a\nif\nval v = a\nset a = v\nend", ("a",), a=DEAD)

    def test_empty_blocks(self):
        for text in ["if\nend", "if\nelse\nend", "block\nend", "loop\nend", "loop\nloop\nend\nif\nelse\nblock\nend\nend\nend"]:
            self.check("out a\n" + text, ())

    def test_by_all_states(self):
        faulty = 0
        for p in some_programs(1, 400, nodes=3, outs=("b", "a", "c")):
            with self.subTest(text=p.text()):
                expected = Runs(p).effect()
                self.assertEqual(parts(effect(p)), expected)
                self.assertTrue(effect_by_parts(p) == effect(p))
                faulty += expected[0]
        self.assertGreater(faulty, 30)

    def test_by_parts(self):
        faulty = 0
        for p in some_programs(2, 1200, rows=30, nodes=4, outs=("b", "a", "c", "d")):
            with self.subTest(text=p.text()):
                self.assertTrue(effect_by_parts(p) == effect(p))
                self.assertIs(effect(p).faulty, not explore(p).accepted)
                faulty += effect(p).faulty
        self.assertTrue(200 < faulty < 1000)

    def test_all_bounds_together(self):
        for last in ["use new()", "use a0"]:
            p = full_program("new()", last)
            self.assertTrue(effect(p) == effect_by_parts(p))
            self.assertIs(effect(p).faulty, last == "use a0")
        p = full_program("a3", "use a7")
        self.assertTrue(effect(p) == effect_by_parts(p))
        self.assertIs(effect(p).faulty, False)
        ends = {out: explore(p).ends(49, out) for out in p.outs}
        self.assertEqual({out: list(effect(p).gives(out)) for out in p.outs}, ends)

    def test_the_same_effect_each_time(self):
        for p in some_programs(3, 30, nodes=3):
            for function in [effect, effect_by_parts]:
                self.assertTrue(function(p) == function(p))
                self.assertTrue(function(p) == function(Program.read(p.text())))


class CombinedTest(Case):
    def test_pairs(self):
        seen = 0
        for p, q in some_pairs(1, 400):
            e, f = effect(p), effect(q)
            with self.subTest(p=p.text(), q=q.text()):
                for piece, expected in [
                    (joined(p, "if", p, "else", q, "end"), e | f), (joined(p, "if", q, "else", p, "end"), e | f),
                    (joined(p, "block", p, "end", "block", q, "end"), e >> f), (joined(p, "loop", p, "end"), e.repeated()),
                    (joined(p, "if", p, "end"), Effect.nothing(p.outs) | e), (joined(p, "block", p, "end"), e),
                ]:
                    self.assertTrue(effect(piece) == expected)
                    self.assertTrue(effect_by_parts(piece) == expected)
            seen += not (e >> f).faulty and len(p) > 2 < len(q)
        self.assertGreater(seen, 100)

    def test_pieces_within_blocks(self):
        for p, q in some_pairs(2, 200, rows=5):
            e, f, nothing = effect(p), effect(q), Effect.nothing(p.outs)
            for piece, expected in [
                (joined(p, "loop", "if", p, "else", q, "end", "end"), (e | f).repeated()),
                (joined(p, "if", "loop", p, "end", "else", "block", q, "end", "end"), e.repeated() | f),
                (joined(p, "loop", "block", p, "end", "if", q, "end", "end"), (e >> (nothing | f)).repeated()),
                (joined(p, "block", "loop", p, "end", "loop", q, "end", "end"), e.repeated() >> f.repeated()),
                (joined(p, "if", "if", p, "end", "else", "loop", "loop", q, "end", "end", "end"), nothing | e | f.repeated()),
            ]:
                self.assertTrue(effect(piece) == expected, piece.text())
                self.assertTrue(effect_by_parts(piece) == expected, piece.text())


class InsertedTest(Case):
    def setUp(self):
        self.program = Program.read("out a\nval v = a\nif\nref x = a\nelse\nref y = v\nuse y\nend\nloop\nend")

    def test_each_place(self):
        lines = self.program.text().split("\n")[1:]
        piece = Program.read("out a\nref t = a\nuse t")
        for k in range(1, len(self.program) + 2):
            expected = ["out a", *lines[:k - 1], "block", "ref t = a", "use t", "end", *lines[k - 1:]]
            q = inserted(self.program, k, piece)
            self.assertIsInstance(q, Program)
            self.assertEqual(q.text(), "\n".join(expected))
        self.assertEqual(inserted(Program.read(""), 1, Program.read("use new()")).text(), "block\nuse new()\nend")

    def test_the_empty_piece(self):
        for k in range(1, len(self.program) + 2):
            q = inserted(self.program, k, Program.read(""))
            self.assertEqual([row.text() for row in q][k - 1:k + 1], ["block", "end"])
            self.assertEqual(len(q), len(self.program) + 2)
        self.assertEqual(inserted(Program.read(""), 1, Program.read("")).text(), "block\nend")

    def test_pieces_with_blocks_and_outs_in_a_block(self):
        piece = Program.read("out y a\nif\nset y = a\nelse\nloop\nuse a\nend\nend")
        expected = "val v = a\nif\nref x = a\nelse\nref y = v\nuse y\n{}\nend\nloop\nend"
        rows = "block\nif\nset y = a\nelse\nloop\nuse a\nend\nend\nend"
        self.assertEqual(inserted(self.program, 7, piece).text(), "out a\n" + expected.format(rows))

    def test_ahead_of_else_and_end_rows(self):
        p = Program.read("out a\nif\nref x = a\nelse\nref y = a\nend")
        self.assertEqual(inserted(p, 3, Program.read("out x\nuse x")).text(),
                         "out a\nif\nref x = a\nblock\nuse x\nend\nelse\nref y = a\nend")
        self.assertEqual(inserted(p, 5, Program.read("out y\nuse y")).text(),
                         "out a\nif\nref x = a\nelse\nref y = a\nblock\nuse y\nend\nend")
        self.assertEqual(inserted(p, 6, Program.read("out a\nuse a")).text(),
                         "out a\nif\nref x = a\nelse\nref y = a\nend\nblock\nuse a\nend")

    def test_no_places(self):
        n = len(self.program)
        piece = Program.read("out q\nval v = q")
        for k in [0, n + 2, n + 3, -1, HUGE] + [key for key in LOOSE_KEYS if not (type(key) is int and 1 <= key <= n + 1)]:
            for other in [piece, Program.read(""), Program.read("out a")]:
                self.refused(NoPlace, k, lambda: inserted(self.program, k, other))
        for k in [0, 2, True, None, "1"]:
            self.refused(NoPlace, k, lambda: inserted(Program.read(""), k, Program.read("")))

    def test_outs_that_do_not_fit(self):
        p = self.program
        for k, outs, error, what in [
            (1, "q", UnknownName, "q"), (1, "v", UnknownName, "v"), (2, "v", NotReference, "v"), (10, "v", NotReference, "v"),
            (3, "x", UnknownName, "x"), (5, "x", UnknownName, "x"), (7, "x", UnknownName, "x"), (8, "y", UnknownName, "y"),
            (2, "a v q", NotReference, "v"), (2, "a q v", UnknownName, "q"), (4, "x v", NotReference, "v"),
            (4, "y v", UnknownName, "y"), (10, "a x", UnknownName, "x"),
        ]:
            self.refused(error, what, lambda: inserted(p, k, Program.read("out " + outs)))
            self.refused(error, what, lambda: inserted(p, k, Program.read(f"out {outs}\nval x1 = new()")))
        self.assertEqual(len(inserted(p, 4, Program.read("out x a"))), 11)
        self.assertEqual(len(inserted(p, 7, Program.read("out a y"))), 11)

    def test_names_of_the_piece_that_are_taken(self):
        p = self.program
        for rows, name in [("val v = a", "v"), ("ref x = a", "x"), ("block\nref z = a\nend\nref y = a\nval x = y", "y"),
                           ("ref z = a\nloop\nval x = z\nend\nref v = a", "x")]:
            for k in [1, 4, 10]:
                self.refused(DuplicateName, name, lambda: inserted(p, k, Program.read("out a\n" + rows)))
        self.refused(DuplicateName, "a", lambda: inserted(p, 1, Program.read("val a = new()")))
        self.refused(DuplicateName, "a", lambda: inserted(p, 4, Program.read("out x\nref a = x")))
        # What an out is due to raise comes before what another name is due to raise.
        self.refused(UnknownName, "q", lambda: inserted(p, 10, Program.read("out q\nval v = q")))
        self.refused(DuplicateName, "v", lambda: inserted(p, 10, Program.read(
            "fun f 1\nout a\n" + "use a\n" * 40 + "val v = a")))

    def test_books(self):
        p = Program.read("fun f 1 1\nfun g 2\nout a\nuse f(a)")
        q = inserted(p, 2, Program.read("fun h 0\nfun g 2\nfun e 1\nout a\nuse g(h(),a)"))
        self.assertEqual(q.text(), "fun f 1 1\nfun g 2\nfun h 0\nfun e 1\nout a\nuse f(a)\nblock\nuse g(h(),a)\nend")
        for line in ["fun f 1", "fun f 2 1", "fun f 1\nfun h 2", "fun h 2\nfun f 0"]:
            self.refused(DuplicateFunction, "f", lambda: inserted(p, 2, Program.read(line + "\nout a")))
        self.refused(DuplicateName, "x", lambda: inserted(
            Program.read("fun f 1 1\nout a\nref x = a"), 1, Program.read("fun f 1\nout a\nref x = a")))
        many = Program.read("\n".join(f"fun h{i} 0" for i in range(11)))
        self.refused(TooLarge, "functions", lambda: inserted(p, 1, many))
        self.assertEqual(len(inserted(p, 1, Program.read("\n".join(f"fun h{i} 0" for i in range(10)))).book), 14)
        self.refused(DuplicateFunction, "g", lambda: inserted(p, 1, Program.read(
            "\n".join(f"fun h{i} 0" for i in range(11)) + "\nfun g 0")))

    def test_bounds(self):
        piece = Program.read("out a\n" + "\n".join(["use a"] * 10))
        self.assertEqual(len(inserted(Program.read("out a\n" + "\n".join(["use a"] * 36)), 37, piece)), 48)
        self.refused(TooLarge, "rows", lambda: inserted(Program.read("out a\n" + "\n".join(["use a"] * 37)), 1, piece))
        deep = Program.read("\n".join(["out a"] + ["block"] * 7 + ["end"] * 7))
        self.assertEqual(len(inserted(deep, 7, Program.read(""))), 16)
        self.refused(TooLarge, "depth", lambda: inserted(deep, 8, Program.read("")))
        self.refused(TooLarge, "depth", lambda: inserted(deep, 7, Program.read("block\nend")))
        wide = Program.read("out a\n" + "\n".join([f"use {'part(' * 9}a{')' * 9}"] * 6))
        self.assertEqual(len(inserted(wide, 7, Program.read("out a\n" + "\n".join(["use a"] * 40)))), 48)
        wider = Program.read("out a\n" + "\n".join([f"use {'part(' * 9}a{')' * 9}"] * 4))
        self.assertEqual(len(inserted(wide, 7, wider)), 12)
        self.refused(TooLarge, "nodes", lambda: inserted(wide, 7, Program.read(wider.text() + "\nuse a")))
        names = Program.read("\n".join(f"ref y{i} = new()" for i in range(9)))
        self.assertEqual(len(inserted(names, 1, Program.read("\n".join(f"val x{i} = new()" for i in range(7)))).names()), 16)
        self.refused(TooLarge, "names", lambda: inserted(names, 1, Program.read("\n".join(
            f"val x{i} = new()" for i in range(8)))))

    def test_the_arguments_are_not_modified(self):
        piece = Program.read("fun f 1\nout a\nref t = a")
        before = self.program.text(), piece.text()
        inserted(self.program, 2, piece)
        effect(piece), effect_by_parts(piece)
        self.assertEqual((self.program.text(), piece.text()), before)
        self.assertEqual([len(self.program.book), self.program.outs, piece.outs], [2, ("a",), ("a",)])

    def test_by_chance(self):
        done = 0
        chance = random.Random(1)
        for p, q in some_pairs(3, 400):
            k = chance.randint(1, len(p) + 1)
            rows, middle = [row.text() for row in p], [row.text() for row in q]
            head = [signature.text() for signature in list(p.book)[2:]] + (["out " + " ".join(p.outs)] if p.outs else [])
            text = "\n".join(head + rows[:k - 1] + ["block", *middle, "end"] + rows[k - 1:])
            self.assertTrue(all(out in in_scope(p, k) for out in q.outs))
            try:
                expected = Program.read(text)
            except LivesError as error:
                self.refused(type(error), error.what, lambda: inserted(p, k, q))
            else:
                self.assertEqual(inserted(p, k, q).text(), expected.text())
                done += 1
        self.assertGreater(done, 300)

    def test_what_is_inserted_has_its_effect_there(self):
        for p, q in some_pairs(4, 300):
            try:
                both = inserted(p, len(p) + 1, q)
            except TooLarge:
                continue
            self.assertTrue(effect(inserted(Program(q.book, q.outs, []), 1, q)) == effect(q))
            if not p.names()[len(p.outs):]:
                self.assertTrue(effect(both) == effect(p) >> effect(q))


if __name__ == "__main__":
    unittest.main()
