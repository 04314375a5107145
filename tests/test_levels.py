import random
import unittest

from making import some_programs
from naive import Plan, bound_at, listed, outcomes
from unnamedlives.layout import references
from unnamedlives.levels import is_closed, least_numbers, quick, reach
from unnamedlives.programs import Program
from unnamedlives.tables import explore

BLOCK = "val a = new()\nref x = a\nblock\nval b = new()\nset x = b\nend"


def keys(program):
    return [(k, name) for k in range(1, len(program) + 2) for name in references(program, k)]


def inequalities(program):
    """The second inequalities of [33]: for each row that binds a name the numbers and names that are below it."""
    plan, found = Plan(program), {}
    lasts = {text: lasts for text, _, lasts in listed(program)}
    for k in range(1, len(program) + 1):
        if bound_at(program, k) is not None:
            found[k] = set()
            for thing in outcomes(program, k)[0]:
                if isinstance(thing, int):
                    found[k].add(plan.depth[k] if lasts[f"{k}.{thing}"] else 99)
                else:
                    is_value = program.kind_of(thing) == "val"
                    found[k].add(plan.depth[program.row_of(thing)] if is_value else thing)
    return found


def below(program, numbers):
    """Pairs of a key and a number below which its number is not in a closed table."""
    plan, bounds = Plan(program), inequalities(program)
    for k in range(1, len(program) + 1):
        for q in plan.after[k]:
            for name in references(program, q):
                if k in bounds and name == bound_at(program, k):
                    for thing in bounds[k]:
                        yield (q, name), thing if isinstance(thing, int) else numbers[(k, thing)]
                elif name in plan.scope[k]:
                    number = numbers[(k, name)]
                    is_over = plan.kinds[k] in ("else", "end") and number >= plan.depth[k]
                    yield (q, name), 99 if is_over else number


def naive_least(program):
    numbers, is_settled = {key: 0 for key in keys(program)}, False
    while not is_settled:
        is_settled = True
        for key, number in list(below(program, numbers)):
            if numbers[key] < number:
                numbers[key], is_settled = number, False
    return numbers


class LeastTest(unittest.TestCase):
    def test_example(self):
        p = Program.read(BLOCK)
        n = least_numbers(p)
        self.assertEqual([n[(3, "x")], n[(6, "x")], n[(7, "x")], is_closed(p, n), reach(p), quick(p)],
                         [1, 2, 99, True, {"x": 2}, False])

    def test_the_empty_program(self):
        p = Program.read("")
        self.assertEqual([least_numbers(p), is_closed(p, {}), reach(p), quick(p)], [{}, True, {}, True])
        p = Program.read("out b a")
        self.assertEqual(list(least_numbers(p).items()), [((1, "b"), 0), ((1, "a"), 0)])
        self.assertEqual([list(reach(p).items()), quick(p)], [[("b", 0), ("a", 0)], True])

    def test_a_program_without_references(self):
        p = Program.read("val v = new()\nloop\nuse v\nend")
        self.assertEqual([least_numbers(p), is_closed(p, {}), reach(p), quick(p)], [{}, True, {}, True])

    def test_keys(self):
        p = Program.read("out z b\nref y = z\nval v = z\nblock\nref a = v\nend")
        self.assertEqual(list(least_numbers(p)), [
            (1, "z"), (1, "b"), (2, "z"), (2, "b"), (2, "y"), (3, "z"), (3, "b"), (3, "y"), (4, "z"), (4, "b"), (4, "y"),
            (5, "z"), (5, "b"), (5, "y"), (5, "a"), (6, "z"), (6, "b"), (6, "y"),
        ])

    def test_numbers(self):
        p = Program.read("fun f 1 1\nout a\nval v = a\nif\nref x = pick(v,new())\nset a = x\nelse\nset a = pick(a,v)\nend\n"
                         "set a = f(new())")
        n = least_numbers(p)
        self.assertEqual([n[(k, "a")] for k in range(1, 10)], [0, 0, 0, 0, 2, 0, 1, 99, 99])
        self.assertEqual([n[(k, "x")] for k in (4, 5)], [2, 2])

    def test_the_greatest_numbers_of_the_ends(self):
        for p in some_programs(1, 200):
            n, t = least_numbers(p), explore(p)
            self.assertEqual(list(n), keys(p))
            self.assertEqual(n, naive_least(p))
            self.assertEqual(n, {key: t.number(*key) for key in keys(p)})
            self.assertTrue(all(type(number) is int for number in n.values()))

    def test_the_least_closed_table(self):
        for p in some_programs(2, 100):
            n = least_numbers(p)
            self.assertIs(is_closed(p, n), True)
            for key in n:
                for number in {0, 1, n[key] - 1}:
                    if number < n[key]:
                        self.assertIs(is_closed(p, {**n, key: number}), False, (p.text(), key, number))

    def test_new_dicts(self):
        p = Program.read(BLOCK)
        for f in [least_numbers, reach]:
            expected = f(p)
            self.assertIs(type(expected), dict)
            f(p).clear()
            f(p)[(3, "x")] = 50
            self.assertEqual(f(p), expected)


class ClosedTest(unittest.TestCase):
    def setUp(self):
        self.program = Program.read(BLOCK)
        self.numbers = least_numbers(self.program)

    def closed(self, key, number):
        return is_closed(self.program, {**self.numbers, key: number})

    def test_tables_that_are_not_the_least_one(self):
        p, n = self.program, self.numbers
        self.assertIs(is_closed(p, {key: 99 for key in n}), True)
        self.assertIs(self.closed((6, "x"), 3), True)
        self.assertIs(self.closed((6, "x"), 99), True)
        self.assertIs(is_closed(p, {**n, (3, "x"): 3, (4, "x"): 3, (5, "x"): 3}), True)
        self.assertIs(self.closed((4, "x"), 3), False)
        # The outs have 0 at place 1 in the least table, but no inequality keeps a greater number from them.
        q = Program.read("out a\nuse a\nref x = a")
        self.assertIs(is_closed(q, {(1, "a"): 7, (2, "a"): 8, (3, "a"): 9, (3, "x"): 8}), True)
        self.assertIs(is_closed(q, {(1, "a"): 7, (2, "a"): 8, (3, "a"): 9, (3, "x"): 7}), False)

    def test_a_number_too_low(self):
        for key, number in self.numbers.items():
            self.assertIs(self.closed(key, number - 1), False)
        for number in [0, 1, 2, 3, 98]:
            self.assertIs(self.closed((7, "x"), number), False)

    def test_one_entry_missing(self):
        for key in self.numbers:
            self.assertIs(is_closed(self.program, {k: v for k, v in self.numbers.items() if k != key}), False)
        self.assertIs(is_closed(self.program, {}), False)

    def test_what_is_no_number(self):
        for key in self.numbers:
            for thing in [True, False, -1, 100, 10 ** 40, -10 ** 40, None, "99", "", 99.0, 1.0, [99], (99,), {}]:
                self.assertIs(self.closed(key, thing), False, (key, thing))

    def test_what_is_no_number_where_anything_would_be_closed(self):
        p = Program.read("out a")
        for thing in [True, False, -1, 100, None, "0", 0.0]:
            self.assertIs(is_closed(p, {(1, "a"): thing}), False)
        for number in [0, 1, 98, 99]:
            self.assertIs(is_closed(p, {(1, "a"): number}), True)

    def test_other_keys_are_ignored(self):
        more = {(1, "x"): -5, (2, "x"): None, (8, "x"): True, (0, "x"): 100, "x": "q", 3: [], (3, "a"): "no", (3, "x", 1): 0,
                None: None, (): 0}
        self.assertIs(is_closed(self.program, {**self.numbers, **more}), True)
        self.assertIs(is_closed(self.program, more), False)
        self.assertIs(is_closed(Program.read(""), more), True)

    def test_the_dict_is_not_modified(self):
        table = dict(self.numbers)
        is_closed(self.program, table)
        self.assertEqual(list(table.items()), list(self.numbers.items()))

    def test_each_kind_of_result(self):
        for result, least in [("a", 5), ("v", 1), ("new()", 2), ("f(new())", 99), ("pick(a,v)", 5), ("pick(v,new())", 2),
                              ("pick(a,f(new()))", 99), ("copy(a)", 2), ("f(v)", 1)]:
            p = Program.read(f"fun f 1 1\nout a\nval v = a\nblock\nref x = {result}\nend")
            numbers = {(k, "a"): 5 if k < 5 else 99 for k in range(1, 6)}
            for number in [least, 99]:
                self.assertIs(is_closed(p, {**numbers, (4, "x"): number}), True)
            for number in [0, least - 1]:
                self.assertIs(is_closed(p, {**numbers, (4, "x"): number}), False)

    def test_the_end_of_a_part(self):
        for text, before, k, q, d in [
            ("block\nend", {1: 0}, 2, 3, 2), ("block\nblock\nend\nend", {1: 0, 2: 0, 5: 99}, 3, 4, 3),
            ("if\nend", {1: 0}, 2, 3, 2), ("if\nelse\nend", {1: 0, 3: 0}, 2, 4, 2), ("if\nelse\nend", {1: 0, 2: 0}, 3, 4, 2),
        ]:
            p = Program.read("out a\n" + text)
            for number in range(100):
                for behind in {0, 1, d - 1, d, number - 1, number, 50, 98, 99} - {-1}:
                    numbers = {**before, k: number, q: behind}
                    expected = behind >= (99 if number >= d else number)
                    self.assertIs(is_closed(p, {(k, "a"): numbers[k] for k in numbers}), expected, (text, numbers))

    def test_the_end_of_a_loop(self):
        p = Program.read("out a\nloop\nend")
        for first in [0, 1, 2, 3, 98, 99]:
            for second in [0, 1, 2, 3, 98, 99]:
                expected = second >= first >= (99 if second >= 2 else second)
                self.assertIs(is_closed(p, {(1, "a"): first, (2, "a"): second, (3, "a"): 99}), expected)

    def test_by_chance(self):
        closed = {True: 0, False: 0}
        chance = random.Random(1)
        for p in some_programs(3, 300, rows=6):
            n = least_numbers(p)
            for _ in range(10):
                table = {key: max(0, min(99, number + chance.choice([0, 0, 0, 1, 2, 97, -1]))) for key, number in n.items()}
                expected = all(table[key] >= number for key, number in below(p, table))
                self.assertIs(is_closed(p, table), expected)
                closed[expected] += 1
                looks = {k: outcomes(p, k)[1] for k in range(1, len(p) + 1) if p[k].expression is not None}
                if expected and all(table[(k, name)] < 99 for k in looks for name in looks[k]):
                    self.assertTrue(explore(p).accepted)
        self.assertGreater(min(closed.values()), 200)


class ReachTest(unittest.TestCase):
    def test_each_kind_of_result(self):
        for result, number in [("a", 0), ("v", 1), ("w", 2), ("new()", 2), ("f(new())", 99), ("pick(a,v)", 1),
                               ("pick(w,pick(a,v))", 2), ("f(copy(a))", 99), ("pick(a,f(new()))", 99), ("part(then(w,v))", 1)]:
            p = Program.read(f"fun f 1 1\nout a\nval v = a\nblock\nval w = a\nref x = {result}\nend")
            self.assertEqual([reach(p), quick(p)], [{"a": 0, "x": number}, number < 99])

    def test_the_order_of_the_names(self):
        p = Program.read("out z b\nref y = z\nval v = z\nblock\nref a = v\nend\nref c = b")
        self.assertEqual(list(reach(p).items()), [("z", 0), ("b", 0), ("y", 0), ("a", 1), ("c", 0)])

    def test_rows_that_bind_each_others_names(self):
        p = Program.read("ref x = new()\nref y = new()\nref z = new()\nloop\nset x = y\nset y = z\nval v = new()\nset z = v\n"
                         "end")
        self.assertEqual([reach(p), quick(p)], [{"x": 2, "y": 2, "z": 2}, False])
        p = Program.read("out a b c\nset a = b\nset b = c\nset c = a")
        self.assertEqual([reach(p), quick(p)], [{"a": 0, "b": 0, "c": 0}, True])
        p = Program.read("out a b c\nset a = b\nset b = c\nset c = a\nval v = a\nset b = v")
        self.assertEqual([reach(p), quick(p)], [{"a": 1, "b": 1, "c": 1}, False])
        lines = [f"set x{i} = x{i + 1}" for i in range(15)]
        p = Program.read("out " + " ".join(f"x{i}" for i in range(16)) + "\n" + "\n".join(lines) + "\nset x15 = new()")
        self.assertEqual(set(reach(p).values()), {99})

    def test_the_reach_is_that_of_the_whole_program(self):
        p = Program.read("out a\nref x = a\nblock\nval v = a\nset x = v\nend\nset x = a\nuse x")
        self.assertEqual([reach(p), quick(p), explore(p).accepted], [{"a": 0, "x": 2}, False, True])

    def test_outs(self):
        p = Program.read("out a\nval v = a\nset a = v")
        self.assertEqual([reach(p), quick(p)], [{"a": 1}, False])
        self.assertTrue(explore(p).accepted)
        self.assertTrue(quick(Program.read("out a b\nset a = b")))

    def test_depths(self):
        for kept, text in [(True, "val v = new()\nblock\nref x = v\nend"), (True, "block\nval v = new()\nref x = v\nend"),
                           (False, "ref x = new()\nblock\nval v = new()\nset x = v\nend"),
                           (True, "block\nref x = new()\nset x = x\nend"), (False, "block\nref x = new()\nset x = new()\nend"),
                           (False, "block\nref x = new()\nblock\nref y = new()\nset x = y\nend\nend"),
                           (True, "loop\nif\nref x = new()\nelse\nref y = new()\nref z = y\nend\nend")]:
            self.assertIs(quick(Program.read(text)), kept, text)

    def test_a_program_that_is_accepted_though_the_quick_rule_does_not_let_it_through(self):
        p = Program.read(BLOCK)
        self.assertEqual([quick(p), explore(p).accepted], [False, True])

    def test_by_chance(self):
        seen = {True: 0, False: 0}
        for p in some_programs(4, 400, nodes=3):
            bounds = inequalities(p)
            numbers = {name: 0 for name in p.names() if p.kind_of(name) != "val"}
            for _ in range(len(numbers) + 2):
                for k, things in bounds.items():
                    least = max(thing if isinstance(thing, int) else numbers[thing] for thing in things)
                    numbers[p[k].name] = max(numbers[p[k].name], least)
            self.assertEqual(list(reach(p).items()), list(numbers.items()))
            plan = Plan(p)
            allowed = {name: plan.depth[p.row_of(name)] if p.kind_of(name) == "ref" else 0 for name in numbers}
            expected = all(numbers[name] <= allowed[name] for name in numbers)
            self.assertIs(quick(p), expected)
            seen[expected] += 1
            if expected:
                self.assertFalse([fact for fact in explore(p).walk() if "." in fact[2] or fact[2] == "dead"])
        self.assertGreater(min(seen.values()), 50)


if __name__ == "__main__":
    unittest.main()
