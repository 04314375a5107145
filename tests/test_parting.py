import random
import unittest

from cases import Case
from exploring import Runs
from making import some_pairs, some_program
from unnamedlives.errors import DeadLook, OtherOuts, TooLarge
from unnamedlives.machine import replay
from unnamedlives.parting import parting
from unnamedlives.pieces import effect, inserted
from unnamedlives.programs import Program
from unnamedlives.runs import shortest_fault
from unnamedlives.tables import explore


def piece(text, outs="a b"):
    return Program.read(f"fun f 1 1\nout {outs}\n{text}" if text else f"fun f 1 1\nout {outs}")


def some_surrounding(chance, outs, book):
    """A program in which the outs are references, some of them from outside, and a place where they are in scope."""
    outside = outs[:chance.randint(0, len(outs))]
    lines = some_program(chance, chance.randint(0, 9), outs=outs, nodes=3, book=book, tag="s").split("\n")
    lines = [line for line in lines if line and not line.startswith(("fun ", "out "))]
    head = [signature.text() for signature in list(book)[2:]]
    if outside:
        head.append("out " + " ".join(outside))
    values = ["val w = new()"]
    inner = [f"ref {out} = {chance.choice(['w', 'new()', 'pick(w,new())'])}" for out in outs[len(outside):]]
    first = len(values + inner) + 1
    s = Program.read("\n".join(head + values + inner + lines))
    return s, chance.randint(first, len(s) + 1)


class PartingCase(Case):
    def check(self, one, other, text, k):
        """The surrounding is this one, and it parts the pieces."""
        found = parting(one, other)
        self.assertIs(type(found), tuple)
        self.assertEqual([found[0].text(), found[1]], [text, k])
        self.check_parted(one, other, *found)

    def check_parted(self, one, other, s, k):
        self.assertIsInstance(s, Program)
        with_one, with_other = inserted(s, k, one), inserted(s, k, other)
        self.assertTrue(explore(with_other).accepted)
        self.assertFalse(explore(with_one).accepted)
        with self.assertRaises(DeadLook):
            replay(with_one, shortest_fault(with_one))


class CasesTest(PartingCase):
    def test_example(self):
        s, k = parting(Program.read("out a b\nset a = b"), Program.read("out a b"))
        self.assertEqual([s.text(), k], [
            "val n1 = new()\nref a = n1\nref b = n1\nblock\nval n2 = new()\nset b = n2\nend\nuse a", 7])

    def test_a_faulty_piece(self):
        head = "val n1 = new()\nref a = n1\nref b = n1"
        for other in ["", "use a\nuse b", "set a = b\nset b = new()"]:
            self.check(piece("set a = new()\nuse a"), piece(other), head, 4)
        self.check(Program.read("fun f 1 1\nuse f(new())\nref x = f(new())\nuse x"), Program.read(""), "val n1 = new()", 2)

    def test_a_look(self):
        text = "val n1 = new()\nref a = n1\nref b = n1\nblock\nval n2 = new()\nset {} = n2\nend"
        self.check(piece("use a"), piece(""), text.format("a"), 8)
        self.check(piece("use b\nuse a"), piece("use a"), text.format("b"), 8)
        self.check(piece("use b\nuse a"), piece("set a = b"), text.format("a"), 8)
        self.check(piece("set a = b\nuse a"), piece("use a\nset a = b"), text.format("b"), 8)
        # A look comes before what an out gives.
        self.check(piece("use b\nset a = new()"), piece(""), text.format("b"), 8)

    def test_the_first_look_in_the_order_of_the_outs(self):
        text = "val n1 = new()\nref b = n1\nref a = n1\nblock\nval n2 = new()\nset b = n2\nend"
        self.check(piece("use a\nuse b", "b a"), piece("", "b a"), text, 8)

    def test_an_out_that_gives_dead(self):
        head = "val n1 = new()\nref a = n1\nref b = n1\n"
        self.check(piece("set a = new()"), piece(""), head + "use a", 4)
        self.check(piece("set b = new()\nset a = new()"), piece("set a = b"), head + "use a", 4)
        self.check(piece("set b = new()\nset a = new()"), piece("set a = new()"), head + "use b", 4)
        self.check(piece("val v = new()\nset b = v"), piece("set b = pick(a,b)\nset a = new()"), head + "use b", 4)
        self.check(piece("set b = new()\nset a = new()", "b a"), piece("", "b a"),
                   "val n1 = new()\nref b = n1\nref a = n1\nuse b", 4)

    def test_an_out_that_gives_another_out(self):
        text = "val n1 = new()\nref a = n1\nref b = n1\nblock\nval n2 = new()\nset {} = n2\nend\nuse {}"
        self.check(piece("set a = b"), piece(""), text.format("b", "a"), 7)
        self.check(piece("set b = pick(a,b)"), piece(""), text.format("a", "b"), 7)
        self.check(piece(""), piece("set b = a"), text.format("b", "b"), 7)
        self.check(piece("ref t = a\nset a = b\nset b = t"), piece("set a = pick(a,b)"), text.format("a", "b"), 7)
        # An out that gives `dead` in the other piece does not count.
        self.check(piece("ref t = a\nset a = b\nset b = t"), piece("set a = new()"), text.format("a", "b"), 7)

    def test_the_first_out_that_is_given(self):
        text = "val n1 = new()\nref c = n1\nref a = n1\nref b = n1\nblock\nval n2 = new()\nset {} = n2\nend\nuse {}"
        self.check(piece("set c = pick(b,a)", "c a b"), piece("", "c a b"), text.format("a", "c"), 8)
        self.check(piece("set c = pick(b,a)", "c a b"), piece("set c = a", "c a b"), text.format("b", "c"), 8)
        self.check(piece("set b = pick(a,c)", "c a b"), piece("", "c a b"), text.format("c", "b"), 8)
        self.check(piece("set a = c\nset b = c", "c a b"), piece("set a = pick(a,c)", "c a b"), text.format("c", "b"), 8)
        self.check(piece("set a = new()\nset c = b", "c a b"), piece("", "c a b"), text.format("b", "c"), 8)

    def test_pieces_that_may_be_replaced(self):
        for one, other in [("", ""), ("use a", "use a\nuse b"), ("set a = b", "set a = pick(a,b)"), ("set a = b", "set a = new()"),
                           ("use a\nset b = a", "set a = new()\nuse a"), ("ref x = a\nset a = x", ""),
                           ("set a = new()\nuse a", "set b = new()\nuse b"), ("set a = f(new())", "val v = new()\nset a = v")]:
            self.assertIsNone(parting(piece(one), piece(other)))
        self.assertIsNone(parting(Program.read(""), Program.read("")))

    def test_the_pieces_may_have_common_names(self):
        self.assertIsNone(parting(piece("ref x = a"), piece("val x = a")))
        self.check(piece("ref x = a\nset b = x"), piece("ref x = b"),
                   "val n1 = new()\nref a = n1\nref b = n1\nblock\nval n2 = new()\nset a = n2\nend\nuse b", 7)
        # And unlike signatures of one name.
        self.assertIsNotNone(parting(Program.read("fun f 1 1\nout a b\nset a = f(b)"), Program.read("fun f 2\nout a b")))

    def test_names_that_are_taken(self):
        text = "val {v} = new()\nref a = {v}\nref b = {v}\nblock\nval {w} = new()\nset b = {w}\nend\nuse a"
        for one, other, v, w in [
            ("ref n1 = b\nset a = n1", "", "n2", "n3"), ("set a = b", "ref n2 = a", "n1", "n3"),
            ("ref n2 = b\nset a = n2", "ref n1 = a", "n3", "n4"), ("ref n1 = b\nset a = n1", "ref n1 = a", "n2", "n3"),
            ("ref n3 = b\nset a = n3", "", "n1", "n2"), ("block\nref n2 = b\nset a = n2\nend", "ref n4 = b", "n1", "n3"),
            ("ref n10 = b\nref n01 = n10\nset a = n01", "", "n1", "n2"),
        ]:
            self.check(piece(one), piece(other), text.format(v=v, w=w), 7)
        self.check(piece("set n1 = n2", "n1 n2"), piece("", "n1 n2"),
                   "val n3 = new()\nref n1 = n3\nref n2 = n3\nblock\nval n4 = new()\nset n2 = n4\nend\nuse n1", 7)
        one, other = Program.read("fun n1 0\nout a\nuse a"), Program.read("out a")
        self.check(one, other, "val n1 = new()\nref a = n1\nblock\nval n2 = new()\nset a = n2\nend", 7)

    def test_the_book_of_the_surrounding(self):
        s, _ = parting(piece("use f(a)"), piece(""))
        self.assertEqual([len(s.book), s.outs], [2, ()])


class ErrorsTest(PartingCase):
    def test_other_outs(self):
        for one, other in [("a b", "b a"), ("a", "a b"), ("a b", "a"), ("a", "b")]:
            for rows in ["", "use a\nset a = new()\nuse a"]:
                for more in ["", "use a\nset a = new()\nuse a"]:
                    if not (rows and "a" not in one or more and "a" not in other):
                        self.refused(OtherOuts, tuple(other.split()), lambda: parting(piece(rows, one), piece(more, other)))
        self.refused(OtherOuts, ("a",), lambda: parting(Program.read(""), Program.read("out a")))
        self.refused(OtherOuts, (), lambda: parting(Program.read("out a"), Program.read("")))

    def test_more_than_14_outs(self):
        for many in [14, 15, 16]:
            outs = " ".join(f"x{i}" for i in range(many))
            for one, other in [("use x3", ""), ("set x5 = new()\nuse x5", ""), ("set x1 = x2", ""), ("set x4 = new()", "")]:
                e, f = piece(one, outs), piece(other, outs)
                if many > 14:
                    self.refused(TooLarge, "names", lambda: parting(e, f))
                else:
                    self.check_parted(e, f, *parting(e, f))
                self.assertIsNone(parting(e, e))
            self.assertIsNone(parting(piece("use x3", outs), piece("use x3\nuse x4", outs)))
        many = " ".join(f"x{i}" for i in range(16))
        self.refused(OtherOuts, tuple(many.split()), lambda: parting(piece("use x1", "x1 x2"), piece("", many)))

    def test_the_arguments_are_not_modified(self):
        one, other = piece("use a"), piece("")
        before = one.text(), other.text()
        self.assertEqual(parting(one, other)[0].text(), parting(one, other)[0].text())
        self.assertEqual((one.text(), other.text()), before)


class ByChanceTest(PartingCase):
    def test_what_parts_two_pieces(self):
        found = [0] * 5
        for one, other in some_pairs(1, 600, rows=8):
            e, f = effect(one), effect(other)
            result = parting(one, other)
            self.assertIs(result is None, e.may_replace(f))
            if result is None:
                found[0] += 1
                continue
            s, k = result
            with self.subTest(one=one.text(), other=other.text()):
                self.check_parted(one, other, s, k)
                self.assertIsNotNone(Runs(inserted(s, k, one)).first_dead_look())
                self.assertIsNone(Runs(inserted(s, k, other)).first_dead_look())
                last = len(s) + 1
                case = 1 if e.faulty else 2 if k == last else 3 if k == last - 1 and "end" not in s.text() else 4
                found[case] += 1
        self.assertGreater(min(found), 10)

    def test_replacing_in_surroundings(self):
        """No surrounding shows a difference if one piece may replace the other one; parting shows one if not."""
        seen = {True: 0, False: 0}
        chance = random.Random(1)
        for one, other in some_pairs(2, 250, rows=6):
            may = effect(one).may_replace(effect(other))
            for _ in range(12):
                s, k = some_surrounding(chance, one.outs, one.book)
                try:
                    with_one, with_other = inserted(s, k, one), inserted(s, k, other)
                except TooLarge:
                    continue
                if explore(with_other).accepted and not explore(with_one).accepted:
                    self.assertFalse(may, (s.text(), k, one.text(), other.text()))
                    seen[False] += 1
                elif may and explore(with_other).accepted:
                    seen[True] += 1
        self.assertGreater(min(seen.values()), 50)

    def test_pieces_of_equal_effects(self):
        for one, other in some_pairs(3, 300, rows=8):
            same = parting(one, other) is None and parting(other, one) is None
            self.assertIs(same, effect(one) == effect(other))


if __name__ == "__main__":
    unittest.main()
