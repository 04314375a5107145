import random
import unittest

from kinds import LOOSE_KEYS, same
from making import some_book, some_expression, some_program
from naive import Plan, listed, moments, shown_below
from unnamedlives.errors import NoPlace, NoValue, UnknownFunction
from unnamedlives.expressions import Expression
from unnamedlives.lifetimes import deaths, end_row, extended, loose, made, shown, site, temporaries
from unnamedlives.programs import Program
from unnamedlives.signatures import Book, Signature

BOOK = Book(Signature("f", 1, sources=(1,)), Signature("g", 2))


def some_programs(number, count, rows=14, nodes=6):
    chance = random.Random(number)
    for _ in range(count):
        outs = ("b", "a")[:chance.randint(0, 2)]
        yield Program.read(some_program(chance, chance.randint(0, rows), outs=outs, nodes=nodes))


class SiteTest(unittest.TestCase):
    def test_texts(self):
        self.assertEqual([site(3, 0), site(1, 19), site(48, 7)], ["3.0", "1.19", "48.7"])


class ShownTest(unittest.TestCase):
    def test_each_kind_of_node(self):
        for text, expected in [
            ("new()", [0]),
            ("x", []),
            ("part(new())", [0]),
            ("part(part(new()))", [0]),
            ("pick(new(),x)", [0]),
            ("pick(x,new())", [1]),
            ("pick(new(),new())", [0, 1]),
            ("then(new(),new())", [1]),
            ("then(new(),x)", []),
            ("copy(x)", [1]),
            ("copy(new())", [1]),
            ("g(new(),copy(x))", [3]),
            ("f(new())", []),
            ("f(part(new()))", []),
            ("part(f(new()))", []),
            ("then(f(new()),part(new()))", [2]),
            ("pick(f(new()),pick(new(),then(new(),copy(new()))))", [2, 5]),
            ("part(pick(then(new(),new()),copy(pick(new(),new()))))", [1, 6]),
            ("then(pick(new(),new()),pick(part(new()),f(pick(new(),new()))))", [3]),
        ]:
            self.assertEqual(shown(Expression.read(text), BOOK), expected, text)

    def test_by_chance(self):
        chance = random.Random(1)
        for _ in range(500):
            book = some_book(chance)
            e = Expression.read(some_expression(chance, book, ["x"], chance.randint(1, 20))[0])
            self.assertEqual(shown(e, book), sorted(shown_below(e.nodes, book, len(e) - 1)))

    def test_unknown_functions(self):
        for text, name in [("h()", "h"), ("f(h())", "h"), ("then(k(h()),new())", "h"), ("k(f(h(x)))", "h"),
                           ("then(k(x),h())", "k"), ("pick(new(),copy(z()))", "z")]:
            with self.assertRaises(UnknownFunction) as caught:
                shown(Expression.read(text), BOOK)
            self.assertEqual(caught.exception.what, name)

    def test_a_new_list_each_time(self):
        e = Expression.read("pick(new(),new())")
        shown(e, BOOK).append(9)
        self.assertEqual(shown(e, BOOK), [0, 1])


class TemporariesTest(unittest.TestCase):
    def test_each_kind_of_row(self):
        p = Program.read(
            "fun f 1 1\nout a\nref x = pick(new(),f(copy(a)))\nval y = pick(new(),f(copy(a)))\n"
            "set x = pick(new(),f(copy(a)))\nuse pick(new(),f(copy(a)))\nref z = x\nif\nelse\nloop\nend\nblock\nend\nend"
        )
        self.assertEqual([temporaries(p, k) for k in range(1, 6)], [[0, 2]] * 4 + [[]])
        self.assertEqual([extended(p, k) for k in range(1, 6)], [[0], [], [], [], []])
        self.assertEqual([loose(p, k) for k in range(1, 6)], [[2], [0, 2], [0, 2], [0, 2], []])
        for f in [temporaries, extended, loose]:
            self.assertEqual([f(p, k) for k in range(6, 14)], [[]] * 8)

    def test_by_chance(self):
        for p in some_programs(2, 200):
            for k in range(1, len(p) + 2):
                values = [(text, lasts) for text, row, lasts in listed(p) if row == k and "." in text]
                self.assertEqual([site(k, i) for i in temporaries(p, k)], [text for text, _ in values])
                self.assertEqual([site(k, i) for i in extended(p, k)], [text for text, lasts in values if lasts])
                self.assertEqual([site(k, i) for i in loose(p, k)], [text for text, lasts in values if not lasts])

    def test_new_lists(self):
        p = Program.read("fun f 1 1\nref x = pick(new(),f(new()))")
        for f in [temporaries, extended, loose]:
            expected = f(p, 1)
            f(p, 1).append(9)
            f(p, 2).append(9)
            self.assertEqual([f(p, 1), f(p, 2)], [expected, []])


class ValuesTest(unittest.TestCase):
    def test_example(self):
        p = Program.read("fun f 1 1\nblock\nref x = then(f(new()),part(new()))\nval y = new()\nend")
        found = [made(p), extended(p, 2), loose(p, 2), deaths(p, 2), deaths(p, 3), deaths(p, 4), deaths(p, 5)]
        self.assertEqual(found, [["2.0", "2.2", "3.0", "y"], [2], [0], ["2.0"], ["3.0"], ["y", "2.2"], []])

    def test_the_empty_program(self):
        for text in ["", "out a", "out a\nuse a\nref x = a\nset x = a"]:
            self.assertEqual(made(Program.read(text)), [])
            self.assertEqual(deaths(Program.read(text), 1), [])

    def test_made(self):
        p = Program.read("out a\nval z = copy(a)\nif\nval c = new()\nelse\nref r = copy(copy(z))\nend\nval b = a")
        self.assertEqual(made(p), ["1.1", "z", "3.0", "c", "5.1", "5.2", "b"])
        made(p).clear()
        self.assertEqual(made(p), ["1.1", "z", "3.0", "c", "5.1", "5.2", "b"])

    def test_rows_and_nodes_are_ordered_as_numbers(self):
        wide = "pick(new(),pick(new(),pick(new(),pick(new(),pick(new(),pick(new(),new()))))))"
        p = Program.read("\n".join(["use new()"] * 9 + ["ref x = " + wide]))
        self.assertEqual(made(p), [f"{k}.0" for k in range(1, 10)] + [f"10.{i}" for i in range(7)])
        self.assertEqual(deaths(p, 11), [f"10.{i}" for i in range(6, -1, -1)])
        p = Program.read("\n".join([f"ref x{k} = new()" for k in range(12)]))
        self.assertEqual(deaths(p, 13), [f"{k}.0" for k in range(12, 0, -1)])

    def test_end_rows(self):
        p = Program.read(
            "fun f 1 1\nval a = new()\nloop\nref x = pick(new(),f(new()))\nif\nref y = new()\nelse\nval z = new()\n"
            "end\nset x = new()\nend"
        )
        self.assertEqual({value: end_row(p, value) for value in made(p)}, {
            "1.0": 1, "a": 11, "3.0": 10, "3.1": 3, "5.0": 6, "7.0": 7, "z": 8, "9.0": 9,
        })

    def test_end_rows_by_chance(self):
        for p in some_programs(3, 200):
            closers = Plan(p).closer
            self.assertEqual(made(p), [text for text, _, _ in listed(p)])
            for text, row, lasts in listed(p):
                self.assertEqual(end_row(p, text), closers[row] if lasts else row)

    def test_no_values(self):
        p = Program.read("out a\nval v = new()\nref x = a\nref y = new()\nblock\nend")
        self.assertEqual(made(p), ["1.0", "v", "3.0"])
        for value in ["a", "x", "y", "2.0", "1.1", "01.0", "1.00", "1.0 ", " v", "0.0", "4.0", "6.0", "new", "1", "1.",
                      ".0", "w", "3.0\n"] + LOOSE_KEYS:
            with self.subTest(value=value):
                with self.assertRaises(NoValue) as caught:
                    end_row(p, value)
                self.assertTrue(same(caught.exception.what, value))


class DeathsTest(unittest.TestCase):
    def test_each_kind_of_row(self):
        p = Program.read(
            "fun f 1 1\nout a\nref x = pick(new(),f(f(copy(copy(a)))))\nval y = pick(new(),copy(a))\n"
            "set x = pick(new(),copy(a))\nuse copy(copy(new()))"
        )
        self.assertEqual([deaths(p, k) for k in range(1, 6)],
                         [["1.3", "1.2"], ["2.2", "2.0"], ["3.2", "3.0"], ["4.2", "4.1", "4.0"], ["y", "1.0"]])

    def test_blocks(self):
        p = Program.read(
            "ref a = pick(new(),new())\nloop\nval b = new()\nblock\nref c = new()\nend\nif\nval d = new()\nelse\n"
            "val e = new()\nref f = new()\nend\nref g = new()\nend\nval h = new()"
        )
        self.assertEqual({k: deaths(p, k) for k in range(1, 17) if deaths(p, k)}, {
            3: ["3.0"], 6: ["5.0"], 8: ["8.0"], 9: ["d"], 10: ["10.0"], 12: ["11.0", "e"], 14: ["13.0", "b"],
            15: ["15.0"], 16: ["h", "1.1", "1.0"],
        })

    def test_each_value_dies_in_its_end_row_and_the_last_one_first(self):
        for p in some_programs(4, 200):
            order = made(p)
            for k in range(1, len(p) + 2):
                self.assertEqual(deaths(p, k), [value for value in order[::-1] if end_row(p, value) == k])

    def test_values_die_in_this_order_in_runs(self):
        for p in some_programs(5, 100, nodes=5):
            for k, _, dying in moments(p):
                self.assertEqual([text for text in deaths(p, k) if text in dying], dying)

    def test_new_lists(self):
        p = Program.read("val x = new()\nblock\nend")
        for k in range(1, 5):
            expected = deaths(p, k)
            deaths(p, k).append("q")
            self.assertEqual(deaths(p, k), expected)


class NoPlaceTest(unittest.TestCase):
    def test_no_places(self):
        for p in [Program.read(""), Program.read("ref x = new()\nif\nend")]:
            last = len(p) + 1
            for k in [0, -1, last + 1, last + 2] + LOOSE_KEYS:
                if type(k) is int and 1 <= k <= last:
                    continue
                for f in [temporaries, extended, loose, deaths]:
                    with self.subTest(f=f.__name__, k=k):
                        with self.assertRaises(NoPlace) as caught:
                            f(p, k)
                        self.assertTrue(same(caught.exception.what, k))


if __name__ == "__main__":
    unittest.main()
