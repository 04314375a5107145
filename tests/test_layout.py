import random
import unittest

from kinds import LOOSE_KEYS, same
from making import some_program
from naive import Plan
from unnamedlives.errors import NoPlace
from unnamedlives.layout import after, closer, depth, in_scope, references
from unnamedlives.programs import Program

FUNCTIONS = [depth, closer, after, in_scope, references]


def some_programs(number, count):
    chance = random.Random(number)
    for _ in range(count):
        outs = ("b", "a")[:chance.randint(0, 2)]
        yield Program.read(some_program(chance, chance.randint(0, 25), outs=outs, nodes=2))


class LayoutTest(unittest.TestCase):
    def test_example(self):
        p = Program.read("loop\nval a = new()\nif\nuse a\nelse\nend\nend")
        found = [depth(p, 5), closer(p, 2), closer(p, 4), after(p, 1), after(p, 3), after(p, 5), after(p, 7),
                 in_scope(p, 7)]
        self.assertEqual(found, [3, 7, 5, [2, 8], [4, 6], [7], [1], ["a"]])

    def test_the_empty_program(self):
        p = Program.read("")
        self.assertEqual([f(p, 1) for f in FUNCTIONS], [1, 1, [], [], []])
        p = Program.read("out b a")
        self.assertEqual([f(p, 1) for f in FUNCTIONS], [1, 1, [], ["b", "a"], ["b", "a"]])

    def test_expression_rows(self):
        p = Program.read("out a\nuse a\nval x = a\nref y = a\nset y = x")
        self.assertEqual([depth(p, k) for k in range(1, 6)], [1] * 5)
        self.assertEqual([closer(p, k) for k in range(1, 6)], [5] * 5)
        self.assertEqual([after(p, k) for k in range(1, 6)], [[2], [3], [4], [5], []])
        self.assertEqual([in_scope(p, k) for k in range(1, 6)],
                         [["a"], ["a"], ["a", "x"], ["a", "x", "y"], ["a", "x", "y"]])
        self.assertEqual([references(p, k) for k in range(1, 6)], [["a"], ["a"], ["a"], ["a", "y"], ["a", "y"]])

    def test_an_if_without_else(self):
        p = Program.read("if\nuse new()\nend\nuse new()")
        self.assertEqual([after(p, k) for k in range(1, 6)], [[2, 4], [3], [4], [5], []])
        self.assertEqual([depth(p, k) for k in range(1, 6)], [1, 2, 2, 1, 1])
        self.assertEqual([closer(p, k) for k in range(1, 6)], [5, 3, 3, 5, 5])
        p = Program.read("if\nend")
        self.assertEqual([after(p, k) for k in range(1, 4)], [[2, 3], [3], []])
        self.assertEqual([closer(p, k) for k in range(1, 4)], [3, 2, 3])

    def test_an_if_with_else(self):
        p = Program.read("if\nval x = new()\nelse\nval y = new()\nend\nuse new()")
        self.assertEqual([after(p, k) for k in range(1, 8)], [[2, 4], [3], [6], [5], [6], [7], []])
        self.assertEqual([depth(p, k) for k in range(1, 8)], [1, 2, 2, 2, 2, 1, 1])
        self.assertEqual([closer(p, k) for k in range(1, 8)], [7, 3, 3, 5, 5, 7, 7])
        self.assertEqual([in_scope(p, k) for k in range(1, 8)], [[], [], ["x"], [], ["y"], [], []])
        p = Program.read("if\nelse\nend")
        self.assertEqual([after(p, k) for k in range(1, 5)], [[2, 3], [4], [4], []])

    def test_loops(self):
        p = Program.read("loop\nloop\nend\nblock\nend\nend")
        self.assertEqual([after(p, k) for k in range(1, 8)], [[2, 7], [3, 4], [2], [5], [6], [1], []])
        self.assertEqual([depth(p, k) for k in range(1, 8)], [1, 2, 3, 2, 3, 2, 1])
        self.assertEqual([closer(p, k) for k in range(1, 8)], [7, 6, 3, 6, 5, 6, 7])

    def test_an_if_at_the_end_of_a_loop(self):
        p = Program.read("loop\nif\nelse\nloop\nend\nend\nend")
        self.assertEqual([after(p, k) for k in range(1, 9)], [[2, 8], [3, 4], [7], [5, 6], [4], [7], [1], []])

    def test_names_of_blocks_that_ended(self):
        p = Program.read("out a\nblock\nref x = a\nblock\nval y = a\nend\nref z = a\nend\nref w = a")
        self.assertEqual([in_scope(p, k) for k in range(1, 10)], [
            ["a"], ["a"], ["a", "x"], ["a", "x"], ["a", "x", "y"], ["a", "x"], ["a", "x", "z"], ["a"], ["a", "w"],
        ])
        self.assertEqual(references(p, 5), ["a", "x"])

    def test_by_chance(self):
        for p in some_programs(1, 300):
            plan = Plan(p)
            for k in range(1, len(p) + 2):
                with self.subTest(text=p.text(), k=k):
                    self.assertEqual(depth(p, k), plan.depth[k])
                    self.assertEqual(closer(p, k), plan.closer[k])
                    self.assertEqual(after(p, k), plan.after[k])
                    self.assertEqual(in_scope(p, k), plan.scope[k])
                    names = [name for name in plan.scope[k] if p.kind_of(name) in ("out", "ref")]
                    self.assertEqual(references(p, k), names)

    def test_deepest_blocks(self):
        p = Program.read("\n".join(["loop"] * 7 + ["use new()"] + ["end"] * 7))
        self.assertEqual([depth(p, k) for k in range(1, 17)], [1, 2, 3, 4, 5, 6, 7, 8, 8, 7, 6, 5, 4, 3, 2, 1])
        self.assertEqual([closer(p, k) for k in range(1, 17)],
                         [16, 15, 14, 13, 12, 11, 10, 9, 9, 10, 11, 12, 13, 14, 15, 16])

    def test_new_lists(self):
        p = Program.read("out a\nloop\nend")
        for f in [after, in_scope, references]:
            expected = f(p, 1)
            self.assertIs(type(f(p, 1)), list)
            f(p, 1).append("q")
            f(p, 2).clear()
            self.assertEqual(f(p, 1), expected)

    def test_no_places(self):
        for p in [Program.read(""), Program.read("loop\nend"), Program.read("out a\nuse a")]:
            last = len(p) + 1
            for k in [0, -1, last + 1, last + 2, 10 ** 40 - 1] + LOOSE_KEYS:
                if type(k) is int and 1 <= k <= last:
                    continue
                for f in FUNCTIONS:
                    with self.subTest(f=f.__name__, k=k):
                        with self.assertRaises(NoPlace) as caught:
                            f(p, k)
                        self.assertTrue(same(caught.exception.what, k))


if __name__ == "__main__":
    unittest.main()
