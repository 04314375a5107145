import itertools
import random
import unittest

from kinds import LOOSE_KEYS, same
from making import some_program
from naive import moments
from unnamedlives.errors import NeverTogether, NoValue
from unnamedlives.expressions import Expression
from unnamedlives.lifetimes import made
from unnamedlives.orders import above, dies_first, together
from unnamedlives.programs import Program


class AboveTest(unittest.TestCase):
    def test_examples(self):
        e = Expression.read("then(f(new(),x),part(pick(y,z)))")
        for i, j, expected in [(0, 1, 2), (0, 0, 0), (0, 2, 2), (2, 1, 2), (0, 3, 7), (3, 4, 5), (4, 3, 5), (4, 6, 6),
                               (5, 3, 5), (6, 2, 7), (7, 0, 7), (7, 7, 7), (3, 3, 3), (2, 3, 7)]:
            self.assertEqual(above(e, i, j), expected)

    def test_all_pairs(self):
        for text in ["x", "f(g(a,b),part(h(c)),new())", "pick(pick(pick(a,b),c),then(d,pick(e,f(g))))"]:
            e = Expression.read(text)
            for i in range(len(e)):
                for j in range(len(e)):
                    holding = [at for at in range(len(e)) if e.first(at) <= min(i, j) and max(i, j) <= at]
                    self.assertEqual(above(e, i, j), min(holding))


class OrdersTest(unittest.TestCase):
    def check(self, p, together_with, first_of):
        """Compares with the pairs that are together, and the value of each that dies first."""
        for one, other in itertools.permutations(made(p), 2):
            pair = frozenset([one, other])
            with self.subTest(text=p.text(), one=one, other=other):
                self.assertIs(together(p, one, other), pair in together_with)
                if pair in together_with:
                    self.assertEqual(dies_first(p, one, other), first_of[pair])
                else:
                    with self.assertRaises(NeverTogether) as caught:
                        dies_first(p, one, other)
                    self.assertEqual(caught.exception.what, one)

    def check_by_runs(self, p):
        pairs, first = set(), {}
        for _, alive, dying in moments(p):
            pairs |= {frozenset(pair) for pair in itertools.combinations(alive, 2)}
            left = set(alive)
            for text in dying:
                left.remove(text)
                for other in left:
                    pair = frozenset([text, other])
                    self.assertEqual(first.setdefault(pair, text), text)
        self.check(p, pairs, first)

    def test_example(self):
        p = Program.read("fun f 1 1\nref x = then(f(new()),part(new()))\nval y = pick(new(),copy(new()))")
        found = [dies_first(p, "1.2", "1.0"), dies_first(p, "y", "1.2"), together(p, "2.0", "2.1"),
                 together(p, "1.0", "y")]
        self.assertEqual(found, ["1.0", "y", False, False])

    def test_one_row(self):
        for text in [
            "use copy(copy(new()))", "use pick(new(),new())", "use pick(copy(new()),new())", "val x = new()",
            "val x = pick(new(),copy(new()))", "ref x = pick(new(),copy(new()))", "ref x = then(new(),new())",
            "fun g 2\nref x = g(pick(new(),new()),new())", "fun f 1 1\nref x = pick(pick(new(),f(new())),new())",
            "fun f 1 1\nref x = then(f(new()),pick(copy(new()),new()))",
            "fun g 2\nuse g(pick(new(),new()),pick(new(),new()))",
        ]:
            self.check_by_runs(Program.read(text))

    def test_a_pick_above_another_pick(self):
        p = Program.read("use pick(then(new(),pick(new(),new())),new())")
        self.assertEqual([pair for pair in itertools.combinations(made(p), 2) if together(p, *pair)],
                         [("1.0", "1.1"), ("1.0", "1.2")])

    def test_extended_and_loose_values_of_one_row(self):
        p = Program.read("ref x = copy(new())")
        self.assertEqual([dies_first(p, "1.0", "1.1"), dies_first(p, "1.1", "1.0")], ["1.0", "1.0"])
        p = Program.read("ref x = copy(new())\nset x = copy(new())")
        self.assertEqual([dies_first(p, "2.0", "2.1"), dies_first(p, "2.1", "2.0")], ["2.1", "2.1"])
        p = Program.read("fun f 1 1\nref x = then(part(f(new())),new())")
        self.assertEqual(dies_first(p, "1.0", "1.3"), "1.0")
        p = Program.read("val x = copy(new())")
        self.assertEqual([dies_first(p, "1.0", "1.1"), dies_first(p, "1.0", "x"), dies_first(p, "x", "1.1")],
                         ["1.1", "1.0", "1.1"])

    def test_two_extended_values_of_one_row(self):
        p = Program.read("fun g 2\nref x = pick(g(new(),new()),new())")
        self.assertEqual([together(p, "1.2", "1.3"), together(p, "1.0", "1.3"), together(p, "1.0", "1.1")],
                         [False, False, True])

    def test_different_rows(self):
        p = Program.read("val a = new()\nblock\nval b = new()\nend\nif\nval c = new()\nelse\nval d = new()\nend\nuse new()")
        self.assertEqual([pair for pair in itertools.combinations(["a", "b", "c", "d", "10.0"], 2) if together(p, *pair)],
                         [("a", "b"), ("a", "c"), ("a", "d"), ("a", "10.0")])
        self.assertEqual([dies_first(p, "a", "b"), dies_first(p, "c", "a"), dies_first(p, "a", "10.0")],
                         ["b", "c", "10.0"])

    def test_values_of_other_rounds_are_dead(self):
        p = Program.read("loop\nval a = new()\nif\nval b = new()\nend\nval c = new()\nend")
        self.check_by_runs(p)
        self.assertEqual([together(p, "a", "b"), together(p, "b", "c"), together(p, "c", "a")], [True, False, True])

    def test_by_chance(self):
        chance = random.Random(1)
        for _ in range(150):
            self.check_by_runs(Program.read(some_program(chance, chance.randint(1, 14), outs=("a",), nodes=6)))

    def test_no_values(self):
        p = Program.read("out a\nval v = new()\nref x = a\nref y = pick(new(),new())")
        for value in ["a", "x", "y", "2.0", "1.1", "01.0", "v ", "new", "3.2", "4.0"] + LOOSE_KEYS:
            for f in [together, dies_first]:
                for one, other in [(value, "v"), ("v", value), (value, "q"), ("3.0", value)]:
                    with self.subTest(f=f.__name__, one=one, other=other):
                        with self.assertRaises(NoValue) as caught:
                            f(p, one, other)
                        self.assertTrue(same(caught.exception.what, value))

    def test_values_come_before_together(self):
        p = Program.read("ref y = pick(new(),new())")
        for f in [together, dies_first]:
            for one, other, what in [("q", "r", "q"), ("1.0", "r", "r"), ("r", "1.0", "r")]:
                with self.assertRaises(NoValue) as caught:
                    f(p, one, other)
                self.assertEqual(caught.exception.what, what)
        for one, other in [("1.0", "1.1"), ("1.1", "1.0")]:
            with self.assertRaises(NeverTogether) as caught:
                dies_first(p, one, other)
            self.assertEqual(caught.exception.what, one)


if __name__ == "__main__":
    unittest.main()
