import unittest

from cases import Case
from exploring import Runs, all_runs
from kinds import LOOSE_KEYS
from making import full_program, some_programs
from unnamedlives.errors import DeadLook, NoFact
from unnamedlives.machine import Machine, replay
from unnamedlives.programs import Program
from unnamedlives.runs import run_to, shortest_fault
from unnamedlives.tables import explore

FIRST = "fun first 2 1\nval a = new()\nref x = first(new(),a)\nuse x"


class RunCase(Case):
    def check_form(self, run):
        self.assertIs(type(run), list)
        for choice in run:
            self.assertIs(type(choice), list)
            self.assertTrue(all(type(number) is int for number in choice))

    def check_fault(self, p, steps):
        """The run to a fault takes so many steps, one by one, and only the last one is refused."""
        run = shortest_fault(p)
        self.check_form(run)
        self.assertEqual(len(run), steps)
        m, lenient = Machine(p), Machine(p, strict=False)
        for choice in run[:-1]:
            m(choice)
            self.assertNotIn("dead look", [event[0] for event in lenient(choice)])
        before = m.place, m.events()
        with self.assertRaises(DeadLook) as caught:
            m(run[-1])
        self.assertEqual([caught.exception.row, (m.place, m.events())], [m.place, before])
        self.assertIn("dead look", [event[0] for event in lenient(run[-1])])
        return m.place, caught.exception.what

    def check_fact(self, p, fact, steps):
        run = run_to(p, *fact)
        self.check_form(run)
        self.assertEqual(len(run), steps)
        m = Machine(p, strict=False)
        for choice in run:
            self.assertIs(m.ended, False)
            m(choice)
        self.assertEqual((m.place, fact[1], m.end(fact[1])), fact)


class ShortestFaultTest(RunCase):
    def test_example(self):
        p = Program.read(FIRST)
        self.assertEqual([shortest_fault(p), run_to(p, 3, "x", "2.0")], [[[0], [0, 0, 1], [0]], [[0], [0, 0, 1]]])

    def test_accepted_programs(self):
        for text in ["", "out a", "out a\nuse a", "ref x = copy(new())\nuse x", "loop\nval v = new()\nend",
                     "fun f 1 1\nref x = f(new())", "out a\nset a = new()\nblock\nend"]:
            self.assertIsNone(shortest_fault(Program.read(text)))

    def test_each_way_to_look(self):
        for row in ["use x", "val y = x", "use part(pick(new(),x))", "ref y = f(x)", "set x = copy(pick(new(),x))",
                    "use then(f(pick(new(),x)),new())", "use g(new(),then(new(),x))", "val y = g(pick(new(),new()),x)",
                    "use pick(f(pick(new(),x)),new())", "use pick(new(),pick(new(),g(new(),pick(new(),x))))"]:
            p = Program.read("fun f 1 1\nfun g 2 1 2\nref x = f(new())\n" + row)
            self.assertEqual(self.check_fault(p, 2), (2, "1.0"), row)

    def test_ends_of_both_kinds(self):
        self.assertEqual(self.check_fault(Program.read("out a\nblock\nset a = new()\nend\nuse a"), 4), (4, "2.0"))
        self.assertEqual(self.check_fault(Program.read("out a\nset a = new()\nuse a"), 2), (2, "1.0"))
        p = Program.read("val a = new()\nref x = a\nloop\nuse x\nval b = new()\nset x = b\nend")
        self.assertEqual(self.check_fault(p, 9), (4, "b"))

    def test_the_nearest_fault_stands_behind_another_one(self):
        p = Program.read("out a b\nloop\nuse a\nset a = b\nset b = new()\nend\nset a = new()\nuse a")
        self.assertEqual(explore(p).faults()[0][0], 2)
        self.assertEqual(self.check_fault(p, 3), (7, "6.0"))

    def test_a_fault_in_a_row_that_no_run_reaches_in_fewer_steps(self):
        p = Program.read("fun f 1 1\nref x = f(new())\nif\nblock\nend\nelse\nblock\nend\nend\nuse x")
        self.assertEqual(self.check_fault(p, 6), (9, "1.0"))

    def test_the_branches_of_an_if(self):
        p = Program.read("out a b\nif\nset b = a\nelse\nset a = new()\nend\nif\nset b = a\nelse\nend\nuse b")
        self.assertEqual(self.check_fault(p, 7), (10, "4.0"))
        p = Program.read("out a\nval v = a\nif\nif\nset a = new()\nelse\nend\nend\nval w = pick(v,a)")
        self.assertEqual(self.check_fault(p, 7), (8, "4.0"))

    def test_several_rounds(self):
        p = Program.read("out a b c\nloop\nuse a\nset a = b\nset b = c\nset c = new()\nend")
        self.assertEqual(self.check_fault(p, 20), (2, "5.0"))
        p = Program.read("out a b\nloop\nloop\nset a = b\nend\nif\nset b = new()\nend\nuse a\nend")
        self.assertEqual(self.check_fault(p, 14), (8, "6.0"))

    def test_programs_by_all_their_states(self):
        faulty = 0
        for p in some_programs(1, 250):
            with self.subTest(text=p.text()):
                runs = Runs(p)
                if runs.first_dead_look() is None:
                    self.assertIsNone(shortest_fault(p))
                else:
                    place, _ = self.check_fault(p, runs.first_dead_look())
                    self.assertEqual(runs.dead_looks[place], runs.first_dead_look())
                    faulty += 1
        self.assertGreater(faulty, 50)

    def test_small_programs_by_all_runs(self):
        faulty = 0
        for p in some_programs(2, 600, rows=8, nodes=3):
            least = None
            for machine, steps in all_runs(p, 5):
                if least is None and "dead look" in [event[0] for event in machine.events()]:
                    least = steps
            run = shortest_fault(p)
            self.assertEqual(None if run is None or len(run) > 5 else len(run), least)
            faulty += least is not None
        self.assertGreater(faulty, 20)

    def test_new_lists(self):
        p = Program.read(FIRST)
        run = shortest_fault(p)
        run[0].append(7)
        run.pop()
        self.assertEqual(shortest_fault(p), [[0], [0, 0, 1], [0]])


class RunToTest(RunCase):
    def test_distance_0(self):
        for text in ["out a b", "out b a\nloop\nset a = b\nend"]:
            self.assertEqual(run_to(Program.read(text), 1, "a", "a"), [])

    def test_every_fact(self):
        for text in [
            FIRST, "out a b\nif\nset a = b\nelse\nif\nset a = new()\nend\nend\nuse a",
            "out a b\nloop\nset a = b\nloop\nset b = pick(a,new())\nend\nval v = new()\nset b = pick(b,v)\nend",
            "fun f 2 1 2\nref x = pick(new(),f(new(),new()))\nblock\nref y = pick(x,f(x,new()))\nset x = pick(y,x)\nend",
            "\n".join(["out a", "val u = a"] + ["loop"] * 7 + ["set a = pick(u,new())"] + ["end"] * 7),
        ]:
            p = Program.read(text)
            for fact, steps in Runs(p).distances.items():
                self.check_fact(p, fact, steps)

    def test_every_fact_by_chance(self):
        for p in some_programs(3, 120):
            for fact, steps in Runs(p).distances.items():
                with self.subTest(text=p.text(), fact=fact):
                    self.check_fact(p, fact, steps)

    def test_a_lenient_machine_is_needed_behind_a_fault(self):
        p = Program.read("fun f 1 1\nout a\nref x = f(new())\nuse x\nset a = x")
        run = run_to(p, 4, "a", "1.0")
        self.assertEqual(len(run), 3)
        with self.assertRaises(DeadLook):
            replay(p, run)
        self.check_fact(p, (4, "a", "1.0"), 3)

    def test_no_facts(self):
        p = Program.read("out a\nval v = a\nblock\nref x = v\nend\nuse a")
        wrong = [(4, "x", "2"), (4, "x", "dead"), (5, "x", "1"), (3, "x", "1"), (2, "v", "1"), (0, "a", "a"), (7, "a", "a"),
                 (1, "", ""), (4, "", ""), (1, "a", ""), (True, "a", "a"), (None, "a", "a"), ("1", "a", "a"), (1, "a", None)]
        wrong += [(1, key, "a") for key in LOOSE_KEYS] + [(1, "a", key) for key in LOOSE_KEYS]
        wrong += [(key, "a", "a") for key in LOOSE_KEYS if key not in (1, 2) or key is True]
        for fact in wrong:
            self.refused(NoFact, fact, lambda: run_to(p, *fact))

    def test_new_lists(self):
        p = Program.read(FIRST)
        run = run_to(p, 3, "x", "2.0")
        run[1].clear()
        run.append([])
        self.assertEqual(run_to(p, 3, "x", "2.0"), [[0], [0, 0, 1]])

    def test_all_bounds_together(self):
        p = full_program("new()", "use a0")
        t = explore(p)
        self.check_fault(p, t.steps_to(41) + 1)
        for out in p.outs:
            self.check_fact(p, (49, "a0", out), t.distance(49, "a0", out))


if __name__ == "__main__":
    unittest.main()
