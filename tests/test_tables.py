import inspect
import unittest

from cases import Case
from exploring import Runs, all_runs, state_of
from kinds import HUGE, LOOSE_KEYS
from making import full_program, some_programs
from naive import Plan, facts_after, facts_made, outcomes
from unnamedlives.errors import NoFact, NoPlace, UnknownName
from unnamedlives.layout import references
from unnamedlives.machine import replay
from unnamedlives.programs import Program
from unnamedlives.runs import run_to, shortest_fault
from unnamedlives.tables import Lives, explore

BOTH_PARTS = "out a b\nval v = b\nref x = a\nloop\nif\nset x = v\nelse\nset x = pick(b,new())\nend\nuse x\nend"
LOOP = "val a = new()\nref x = a\nloop\nuse x\nval b = new()\nset x = b\nend"
PICK = "fun f 1 1\nref x = pick(new(),f(new()))"


def facts(text):
    return list(explore(Program.read(text)).walk())


def ends(text, name):
    """The ends of a reference by place, without the places where it is not in scope."""
    p = Program.read(text)
    t = explore(p)
    return {k: t.ends(k, name) for k in range(1, len(p) + 2) if name in references(p, k)}


class EndsTest(Case):
    def test_examples(self):
        t = explore(Program.read(LOOP))
        found = [t.ends(4, "x"), t.ends(7, "x"), t.number(8, "x"), t.faults(), t.distance(4, "x", "dead"),
                 t.cause(3, "x", "dead")]
        self.assertEqual(found, [["1", "dead"], ["2"], 99, [(4, "x", "dead")], 8, (7, "x", "2")])
        t = explore(Program.read(PICK))
        self.assertEqual([list(t.walk()), t.accepted, t.cause(2, "x", "1"), t.steps_to(2)],
                         [[(2, "x", "1"), (2, "x", "1.1")], True, None, 1])

    def test_dead_is_a_class_value(self):
        self.assertEqual(vars(Lives)["DEAD"], 99)
        self.assertIsInstance(explore(Program.read("")), Lives)

    def test_the_empty_program(self):
        t = explore(Program.read(""))
        self.assertEqual([list(t.walk()), t.faults(), t.accepted, t.steps_to(1)], [[], [], True, 0])
        t = explore(Program.read("out b a"))
        self.assertEqual([list(t.walk()), t.ends(1, "b"), t.number(1, "a"), t.distance(1, "a", "a"),
                          t.cause(1, "b", "b")], [[(1, "a", "a"), (1, "b", "b")], ["b"], 0, 0, None])

    def test_each_kind_of_result(self):
        text = "fun f 1 1\nout a b\nval v = a\nblock\nval w = a\nref x = {}\nend"
        for result, expected in [
            ("a", ["a"]), ("pick(a,b)", ["a", "b"]), ("v", ["1"]), ("w", ["2"]), ("new()", ["2"]), ("part(new())", ["2"]),
            ("f(new())", ["4.0"]), ("pick(f(new()),new())", ["2", "4.0"]), ("then(w,v)", ["1"]), ("f(pick(v,w))", ["1", "2"]),
            ("then(a,copy(b))", ["2"]), ("f(copy(b))", ["4.1"]), ("pick(pick(a,v),pick(w,f(new())))", ["1", "2", "4.4", "a"]),
        ]:
            self.assertEqual(ends(text.format(result), "x"), {5: expected}, result)
        for result, expected in [("new()", ["4.0"]), ("part(pick(new(),v))", ["1", "4.0"]), ("w", ["2"])]:
            self.assertEqual(ends(text.format("a") .replace("ref x = a", "set b = " + result), "b")[5], expected, result)

    def test_a_set_row_replaces_the_ends(self):
        self.assertEqual(ends("out a b\nref x = a\nset x = b\nset x = pick(x,a)\nset x = x", "x"),
                         {2: ["a"], 3: ["b"], 4: ["a", "b"], 5: ["a", "b"]})

    def test_a_set_row_with_the_name_of_another_reference(self):
        text = "out a b\nref x = a\nref y = x\nset x = b\nset a = y\nset y = x"
        self.assertEqual(ends(text, "y"), {3: ["a"], 4: ["a"], 5: ["a"], 6: ["b"]})
        self.assertEqual(ends(text, "a"), {k: ["a"] for k in range(1, 7)})

    def test_all_kinds_of_ends_at_one_place(self):
        text = ("fun f 1 1\nout a b\nval v = new()\nloop\nblock\nset b = pick(b,pick(v,pick(a,f(new()))))\nend\n"
                "set b = pick(b,pick(new(),new()))\nval w = new()\nset a = pick(b,w)\nif\nuse new()\nend\nend")
        self.assertEqual(ends(text, "b")[3], ["1", "a", "b", "dead"])
        self.assertEqual(ends(text, "b")[6], ["1", "a", "b", "dead"])
        self.assertEqual(ends(text, "b")[9], ["1", "6.1", "6.2", "a", "b", "dead"])
        self.assertEqual(ends(text, "a")[9], ["1", "2", "6.1", "6.2", "a", "b", "dead"])
        self.assertEqual(ends(text, "a")[12], ["1", "2", "6.1", "6.2", "a", "b", "dead"])
        self.assertEqual(ends(text, "a")[13], ["1", "a", "b", "dead"])
        t = explore(Program.read(text))
        self.assertEqual([t.number(12, "a"), t.number(1, "a"), t.number(4, "b")], [99, 0, 99])

    def test_several_ends_of_each_kind(self):
        text = ("out a b\nval v = new()\nblock\nval w = new()\nset a = pick(pick(a,b),pick(pick(v,w),pick(new(),new())))\n"
                "block\nval u = new()\nset a = pick(a,u)\nend\nend")
        self.assertEqual(ends(text, "a")[5], ["1", "2", "4.6", "4.7", "a", "b"])
        self.assertEqual(ends(text, "a")[8], ["1", "2", "3", "4.6", "4.7", "a", "b"])
        self.assertEqual(ends(text, "a")[9], ["1", "2", "4.6", "4.7", "a", "b", "dead"])
        self.assertEqual(ends(text, "a")[10], ["1", "a", "b", "dead"])

    def test_ends_are_ordered_as_texts(self):
        text = "\n".join(["out b", *["block", "end"] * 4, "val v = b", "set b = pick(b,pick(v,pick(new(),copy(v))))",
                          "set b = pick(b,new())"])
        self.assertEqual(ends(text, "b")[12], ["1", "10.2", "10.4", "11.1", "b"])

    def test_numbers(self):
        p = Program.read("fun f 1 1\nout a\nval v = a\nblock\nval w = a\nref x = a\nset x = pick(a,v)\nset x = pick(v,w)\n"
                         "set x = f(new())\nset x = pick(w,new())\nend")
        t = explore(p)
        self.assertEqual([t.number(k, "x") for k in range(5, 10)], [0, 1, 2, 99, 99])
        self.assertEqual([t.number(k, "a") for k in range(1, 11)], [0] * 10)

    def test_a_loose_temporary_becomes_dead_with_its_block(self):
        text = "out a\nblock\nset a = new()\nblock\nif\nelse\nend\nend\nend\nblock\nend"
        self.assertEqual(ends(text, "a"), {1: ["a"], 2: ["a"], **{k: ["2.0"] for k in range(3, 9)}, 9: ["dead"],
                                           10: ["dead"], 11: ["dead"]})
        for opener in ["if", "loop"]:
            text = f"out a\n{opener}\nset a = new()\nend"
            self.assertEqual(ends(text, "a")[3], ["2.0"])
            self.assertEqual(ends(text, "a")[4], ["a", "dead"])
        self.assertEqual(ends("out a\nif\nset a = new()\nelse\nset a = new()\nend", "a"),
                         {1: ["a"], 2: ["a"], 3: ["2.0"], 4: ["a"], 5: ["4.0"], 6: ["dead"]})
        self.assertEqual(ends("out a\nset a = new()\nblock\nend", "a")[4], ["1.0"])

    def test_a_value_of_an_outer_block_stays_alive(self):
        text = "out a\nblock\nval v = a\nblock\nval w = a\nset a = v\nend\nuse a\nend"
        self.assertEqual(ends(text, "a"), {1: ["a"], 2: ["a"], 3: ["a"], 4: ["a"], 5: ["a"], 6: ["2"], 7: ["2"], 8: ["2"],
                                           9: ["dead"]})

    def test_an_if_with_and_without_else(self):
        self.assertEqual(ends("out a b\nif\nset a = b\nend", "a"), {1: ["a"], 2: ["a"], 3: ["b"], 4: ["a", "b"]})
        self.assertEqual(ends("out a b c\nif\nset a = b\nelse\nset a = c\nend", "a"),
                         {1: ["a"], 2: ["a"], 3: ["b"], 4: ["a"], 5: ["c"], 6: ["b", "c"]})

    def test_empty_blocks(self):
        for text in ["if\nend", "if\nelse\nend", "block\nend", "loop\nend"]:
            p = Program.read("out a\n" + text)
            self.assertEqual(facts("out a\n" + text), [(k, "a", "a") for k in range(1, len(p) + 2)])

    def test_outs_at_place_1_of_a_loop(self):
        text = "out a b\nloop\nset a = b\nset b = new()\nend"
        self.assertEqual(ends(text, "a"), {1: ["a", "b", "dead"], 2: ["a", "b", "dead"], 3: ["b", "dead"],
                                           4: ["b", "dead"], 5: ["a", "b", "dead"]})
        t = explore(Program.read(text))
        self.assertEqual([t.distance(1, "a", "a"), t.distance(1, "a", "b"), t.distance(1, "b", "dead"),
                          t.distance(1, "a", "dead"), t.cause(1, "a", "b"), t.cause(1, "a", "a")],
                         [0, 4, 4, 8, (4, "a", "b"), None])

    def test_nested_loops(self):
        text = "out a b c d\nloop\nset a = b\nloop\nset b = c\nloop\nset c = d\nend\nend\nend"
        self.assertEqual(ends(text, "a")[2], ["a", "b", "c", "d"])
        self.assertEqual(ends(text, "b")[4], ["b", "c", "d"])
        self.assertEqual(ends(text, "c")[10], ["c", "d"])

    def test_seven_blocks_within_one_another(self):
        text = "\n".join(["out a"] + ["block"] * 7 + ["val v = new()", "set a = v"] + ["end"] * 7)
        self.assertEqual(ends(text, "a"), {**{k: ["a"] for k in range(1, 10)}, 10: ["8"],
                                           **{k: ["dead"] for k in range(11, 18)}})
        text = "\n".join(["out a", "val u = a"] + ["loop"] * 7 + ["set a = pick(u,new())"] + ["end"] * 7)
        self.assertEqual(ends(text, "a")[10], ["1", "9.1"])
        self.assertEqual(ends(text, "a")[11], ["1", "a", "dead"])
        self.assertEqual(explore(Program.read(text)).steps_to(17), 2)

    def test_a_reference_declared_in_a_loop(self):
        text = "loop\nval v = new()\nref x = v\nuse x\nend\nref y = new()"
        self.assertEqual(ends(text, "x"), {4: ["2"], 5: ["2"]})
        self.assertTrue(explore(Program.read(text)).accepted)

    def test_a_loop_with_an_if_and_a_set_row_in_both_parts(self):
        p = Program.read(BOTH_PARTS)
        t, steps = explore(p), [0, 1, 2, 3, 4, 5, 4, 5, 6, 7, 3]
        self.assertEqual([t.steps_to(k) for k in range(1, 12)], steps)
        # x comes to the loop with the end of a, and with three other ends after a round.
        first = {3: 2, 4: 3, 5: 4, 7: 4, 11: 3}
        later = {3: 8, 4: 9, 5: 10, 7: 10, 9: 6, 10: 7, 11: 9}
        expected = {(k, name, name): steps[k - 1] for k in range(1, 12) for name in ["a", "b"]}
        expected.update({(k, "x", "a"): first[k] for k in first})
        expected.update({(k, "x", end): later[k] for k in later for end in ["1", "b", "dead"]})
        expected.update({(6, "x", "1"): 5, (8, "x", "b"): 5, (8, "x", "7.1"): 5})
        self.assertEqual(list(t.walk()), sorted(expected))
        self.assertEqual({fact: t.distance(*fact) for fact in t.walk()}, expected)
        self.assertEqual([t.faults(), t.accepted, t.number(8, "x"), t.number(6, "x"), t.number(9, "x")],
                         [[(9, "x", "dead")], False, 99, 1, 99])
        for fact in expected:
            m = replay(p, run_to(p, *fact), strict=False)
            self.assertEqual((m.place, fact[1], m.end(fact[1])), fact)
        self.assertEqual([len(run_to(p, *fact)) for fact in expected], list(expected.values()))
        self.assertEqual(len(shortest_fault(p)), 7)

    def test_programs_by_all_their_states(self):
        for p in some_programs(1, 250):
            with self.subTest(text=p.text()):
                runs, t = Runs(p), explore(p)
                self.assertEqual({fact: t.distance(*fact) for fact in t.walk()}, runs.distances)
                self.assertEqual({k: t.steps_to(k) for k in range(1, len(p) + 2)}, runs.steps_to)
                self.assertEqual({place for place, _, _ in t.faults()}, set(runs.dead_looks))
                self.assertIs(t.accepted, not runs.dead_looks)

    def test_small_programs_by_all_runs(self):
        for p in some_programs(2, 60, rows=5, nodes=3):
            t, seen = explore(p), {}
            for machine, steps in all_runs(p, 6):
                if not machine.ended:
                    place, held = state_of(p, machine)
                    for name, end in held:
                        seen.setdefault((place, name, end), steps)
            near = {fact: t.distance(*fact) for fact in t.walk() if t.distance(*fact) <= 6}
            self.assertEqual(seen, near)


class CauseTest(Case):
    def test_a_fact_that_is_reached_in_two_ways(self):
        t = explore(Program.read("out a\nval v = a\nref x = v\nif\nset x = new()\nelse\nset x = pick(x,new())\nend"))
        self.assertEqual(t.distance(8, "x", "dead"), 5)
        self.assertIn(t.cause(8, "x", "dead"), [(5, "x", "4.0"), (7, "x", "6.1")])
        t = explore(Program.read("out a b\nset a = b\nref x = pick(a,b)"))
        self.assertIn(t.cause(3, "x", "b"), [(2, "a", "b"), (2, "b", "b")])

    def test_a_new_value_or_a_reference_that_gives_the_same_end(self):
        t = explore(Program.read("val v = new()\nref x = v\nref y = pick(x,v)"))
        self.assertIn(t.cause(4, "y", "1"), [(3, "x", "1"), None])
        t = explore(Program.read("ref x = new()\nset x = pick(x,new())"))
        self.assertEqual([t.ends(3, "x"), t.cause(3, "x", "1"), t.cause(3, "x", "2.1")], [["1", "2.1"], (2, "x", "1"), None])

    def test_causes_of_facts_of_a_far_place(self):
        t = explore(Program.read("loop\nref x = new()\nloop\nset x = new()\nend\nuse x\nend"))
        self.assertEqual([t.distance(3, "x", "2"), t.cause(3, "x", "2"), t.cause(5, "x", "4.0"), t.cause(6, "x", "dead")],
                         [2, None, None, (3, "x", "dead")])
        self.assertEqual([t.distance(5, "x", "4.0"), t.distance(6, "x", "dead"), t.cause(3, "x", "dead")],
                         [4, 6, (5, "x", "4.0")])

    def test_causes_in_a_loop_with_a_set_row_in_both_parts(self):
        t = explore(Program.read(BOTH_PARTS))
        for fact, cause in [
            ((1, "a", "a"), None), ((3, "x", "a"), (2, "a", "a")), ((11, "x", "a"), (3, "x", "a")), ((6, "x", "1"), None),
            ((9, "x", "1"), (6, "x", "1")), ((8, "x", "b"), (7, "b", "b")), ((8, "x", "7.1"), None),
            ((9, "x", "b"), (8, "x", "b")), ((9, "x", "dead"), (8, "x", "7.1")), ((10, "x", "dead"), (9, "x", "dead")),
            ((3, "x", "1"), (10, "x", "1")), ((7, "x", "dead"), (4, "x", "dead")), ((11, "x", "dead"), (3, "x", "dead")),
            ((9, "a", "a"), [(6, "a", "a"), (8, "a", "a")]), ((3, "b", "b"), (2, "b", "b")),
        ]:
            self.assertIn(t.cause(*fact), cause if isinstance(cause, list) else [cause], fact)

    def test_the_shorter_way_is_the_cause(self):
        t = explore(Program.read("out a b\nif\nset a = b\nelse\nuse a\nset a = b\nend\nuse a"))
        self.assertEqual([t.distance(7, "a", "b"), t.cause(7, "a", "b")], [3, (3, "a", "b")])

    def test_causes_by_chance(self):
        for p in some_programs(3, 200):
            t, plan = explore(p), Plan(p)
            for fact in t.walk():
                with self.subTest(text=p.text(), fact=fact):
                    self.check_cause(p, plan, t, fact)

    def check_cause(self, p, plan, t, fact):
        cause, distance = t.cause(*fact), t.distance(*fact)
        if distance == 0:
            self.assertIsNone(cause)
            self.assertEqual((1, fact[1], fact[1]), fact)
        elif cause is None:
            self.assertIn(fact, facts_made(p, plan, fact[0] - 1))
            self.assertEqual(distance, t.steps_to(fact[0] - 1) + 1)
        else:
            self.assertIs(type(cause), tuple)
            self.assertIn(fact, facts_after(p, plan, cause))
            self.assertEqual(distance, t.distance(*cause) + 1)

    def test_the_table_is_the_smallest_one_that_is_closed(self):
        for p in some_programs(4, 200):
            plan, rows = Plan(p), range(1, len(p) + 1)
            waiting = {(1, name, name) for name in p.outs}.union(*[facts_made(p, plan, k) for k in rows])
            found = set()
            while waiting:
                found |= waiting
                waiting = {other for fact in waiting for other in facts_after(p, plan, fact)} - found
            self.assertEqual(list(explore(p).walk()), sorted(found))


class FaultTest(Case):
    def test_looks_of_each_kind_of_row(self):
        head = "fun f 1 1\nfun g 2 2\nref x = f(new())\n"
        for row, is_fault in [
            ("use x", True), ("val y = x", True), ("ref y = x", False), ("set x = x", False), ("use part(x)", True),
            ("ref y = part(x)", False), ("ref y = f(x)", True), ("set x = copy(x)", True), ("use pick(new(),x)", True),
            ("ref y = pick(new(),x)", False), ("use then(x,new())", False), ("use then(f(x),new())", True),
            ("val y = then(x,new())", False), ("ref y = then(new(),x)", False), ("ref y = g(x,new())", True),
            ("ref y = f(pick(x,new()))", True), ("use copy(then(x,new()))", False), ("use g(new(),x)", True),
        ]:
            t = explore(Program.read(head + row))
            self.assertEqual(t.faults(), [(2, "x", "1.0")] if is_fault else [], row)
            self.assertIs(t.accepted, not is_fault)

    def test_looks_at_values_are_no_faults(self):
        self.assertTrue(explore(Program.read("out a\nval v = copy(a)\nuse v\nblock\nval w = copy(v)\nuse w\nend")).accepted)

    def test_several_faults_ascending(self):
        text = ("fun f 1 1\nfun g 2\nref y = f(new())\nblock\nref a = f(new())\nset y = pick(y,a)\nuse g(y,a)\nend\n"
                "use y\nval z = f(y)")
        t = explore(Program.read(text))
        self.assertEqual(t.faults(), [(5, "a", "3.0"), (5, "y", "1.0"), (5, "y", "3.0"), (7, "y", "1.0"), (7, "y", "dead"),
                                      (8, "y", "1.0"), (8, "y", "dead")])
        self.assertIs(t.accepted, False)

    def test_names_of_a_fault_are_ordered_as_texts(self):
        t = explore(Program.read("fun g 2\nout z b\nset z = new()\nset b = z\nuse g(z,b)"))
        self.assertEqual(t.faults(), [(3, "b", "1.0"), (3, "z", "1.0")])
        self.assertEqual(list(t.walk())[:4], [(1, "b", "b"), (1, "z", "z"), (2, "b", "b"), (2, "z", "1.0")])

    def test_a_fault_in_a_row_that_no_run_reaches_in_fewer_steps(self):
        text = "fun f 1 1\nref x = f(new())\nblock\nblock\nend\nend\nuse x"
        t = explore(Program.read(text))
        self.assertEqual([t.faults(), t.distance(6, "x", "1.0"), t.steps_to(6)], [[(6, "x", "1.0")], 5, 5])
        t = explore(Program.read("out a\nloop\nif\nuse a\nelse\nset a = new()\nend\nend"))
        self.assertEqual([t.faults(), t.steps_to(3), t.distance(3, "a", "dead")], [[(3, "a", "dead")], 2, 7])

    def test_faults_by_chance(self):
        found = 0
        for p in some_programs(5, 200):
            t = explore(p)
            looks = {k: outcomes(p, k)[1] for k in range(1, len(p) + 1) if p[k].expression is not None}
            expected = [fact for fact in t.walk()
                        if ("." in fact[2] or fact[2] == "dead") and fact[1] in looks.get(fact[0], [])]
            self.assertEqual(t.faults(), expected)
            found += len(expected)
        self.assertGreater(found, 50)


class AskTest(Case):
    def setUp(self):
        self.program = Program.read("out a\nval v = a\nblock\nref x = v\nend\nuse a")
        self.table = explore(self.program)

    def test_no_places(self):
        t = self.table
        for k in [0, -1, 7, 8, HUGE, -HUGE] + [key for key in LOOSE_KEYS if key not in (1, 2) or key is True]:
            for call in [lambda: t.ends(k, "a"), lambda: t.number(k, "a"), lambda: t.ends(k, "q"), lambda: t.steps_to(k),
                         lambda: t.number(k, None)]:
                self.refused(NoPlace, k, call)
        empty = explore(Program.read(""))
        for k in [0, 2, True, None, "1"]:
            self.refused(NoPlace, k, lambda: empty.steps_to(k))
        self.refused(UnknownName, "a", lambda: empty.ends(1, "a"))

    def test_no_references(self):
        t = self.table
        for place, name in [(1, "v"), (2, "v"), (3, "x"), (5, "x"), (6, "x"), (4, "v"), (6, "q"), (1, "1.0")] + [
                (1, key) for key in LOOSE_KEYS]:
            self.refused(UnknownName, name, lambda: t.ends(place, name))
            self.refused(UnknownName, name, lambda: t.number(place, name))
        self.assertEqual([t.ends(4, "x"), t.number(4, "x"), t.ends(6, "a")], [["1"], 1, ["a"]])

    def test_no_facts(self):
        t = self.table
        self.assertEqual(t.distance(4, "x", "1"), 3)
        wrong = [(4, "x", "2"), (4, "x", "dead"), (4, "x", "v"), (4, "x", "3.0"), (5, "x", "1"), (3, "x", "1"), (4, "v", "1"),
                 (2, "v", "1"), (0, "a", "a"), (7, "a", "a"), (-1, "a", "a"), (1, "", ""), (4, "", ""), (1, "a", ""),
                 (1, "", "a"), ("1", "a", "a"), (4, "x", 1), (True, "a", "a"), (False, "a", "a"), (None, "a", "a")]
        wrong += [(1, key, "a") for key in LOOSE_KEYS] + [(1, "a", key) for key in LOOSE_KEYS]
        wrong += [(key, "a", "a") for key in LOOSE_KEYS if key not in (1, 2) or key is True]
        for fact in wrong:
            self.refused(NoFact, fact, lambda: t.distance(*fact))
            self.refused(NoFact, fact, lambda: t.cause(*fact))

    def test_new_lists(self):
        t = explore(Program.read(LOOP))
        for ask in [lambda: t.ends(4, "x"), t.faults]:
            expected = ask()
            self.assertIs(type(expected), list)
            changed = ask()
            changed.append("q")
            changed[0] = "q"
            self.assertEqual(ask(), expected)
        self.assertEqual(list(t.walk()), list(explore(Program.read(LOOP)).walk()))

    def test_walk_is_a_generator(self):
        t = self.table
        self.assertTrue(inspect.isgeneratorfunction(Lives.walk))
        steps = t.walk()
        self.assertEqual([next(steps), next(steps)], [(1, "a", "a"), (2, "a", "a")])
        self.assertEqual(next(t.walk()), (1, "a", "a"))
        for p in some_programs(6, 30):
            walked = list(explore(p).walk())
            self.assertEqual(walked, sorted(set(walked)))
            self.assertEqual(walked, [(k, name, end) for k in range(1, len(p) + 2) for name in sorted(references(p, k))
                                      for end in explore(p).ends(k, name)])

    def test_equal_tables_of_equal_programs(self):
        for p in some_programs(7, 30):
            one, other = explore(p), explore(Program.read(p.text()))
            self.assertEqual([(fact, one.distance(*fact), one.cause(*fact)) for fact in one.walk()],
                             [(fact, other.distance(*fact), other.cause(*fact)) for fact in other.walk()])

    def test_all_bounds_together(self):
        p = full_program("new()", "use new()")
        outs = list(p.outs)
        t = explore(p)
        self.assertEqual([len(p), len(p.names()), t.accepted, t.steps_to(49)], [48, 16, True, 1])
        self.assertEqual(t.ends(49, "a0"), sorted(outs + ["dead"]))
        # Row 8 is the first one, and the old value of a0 is gone when another name could take it.
        self.assertEqual(t.ends(49, "a1"), sorted(outs[1:] + ["dead"]))


if __name__ == "__main__":
    unittest.main()
