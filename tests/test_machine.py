import random
import unittest

from kinds import HUGE, LOOSE_KEYS, NO_INTEGERS, NO_LISTS, same
from making import some_program
from naive import Run
from unnamedlives.errors import BadChoice, DeadLook, Ended, LivesError, NoValue, UnknownName
from unnamedlives.layout import in_scope, references
from unnamedlives.machine import Machine, replay, what_if
from unnamedlives.programs import Program

DEAD = "fun f 1 1\nref x = f(new())\nuse x"


def state(machine, program):
    """All that a machine tells."""
    names = list(program.outs) if machine.ended else in_scope(program, machine.place)
    ends = list(program.outs) if machine.ended else references(program, machine.place)
    values = []
    while True:
        try:
            values.append((machine.told(len(values) + 1), machine.alive(len(values) + 1)))
        except NoValue:
            break
    return [machine.place, machine.ended, machine.strict, machine.events(), values,
            [(name, machine.value_of(name)) for name in names], [(name, machine.end(name)) for name in ends]]


def naive_state(run, strict):
    kinds = {name: run.program.kind_of(name) for name in run.scope()}
    return [run.place, run.ended, strict, run.events, [(value["text"], value["alive"]) for value in run.values],
            [(name, run.bound[name]) for name in run.scope()],
            [(name, run.end(name)) for name in run.scope() if kinds[name] != "val"]]


def some_programs(number, count):
    chance = random.Random(number)
    for _ in range(count):
        outs = ("b", "a")[:chance.randint(0, 2)]
        yield chance, Program.read(some_program(chance, chance.randint(0, 16), outs=outs, nodes=5))


class MachineCase(unittest.TestCase):
    def refused(self, error, what, call):
        with self.assertRaises(error) as caught:
            call()
        self.assertIs(type(caught.exception), error)
        self.assertTrue(same(caught.exception.what, what), caught.exception.what)
        return caught.exception


class StepTest(MachineCase):
    def test_examples(self):
        m = Machine(Program.read("fun f 1 1\nval a = new()\nref x = f(a)"))
        first = m([0])
        second = m([0, 1])
        found = [first, second, m.value_of("x"), m.told(2), m.end("x"), m([]), m.alive(2), m.ended]
        self.assertEqual(found, [
            [("birth", 1, "1.0"), ("look", 1), ("birth", 2, "a"), ("death", 1)], [("look", 2)], 2, "a", "1",
            [("death", 2)], False, True,
        ])

    def test_the_beginning(self):
        m = Machine(Program.read("out b a\nuse a"))
        self.assertEqual([m.place, m.ended, m.strict, m.events()], [1, False, True, []])
        self.assertEqual([m.value_of("b"), m.value_of("a"), m.told(1), m.told(2), m.alive(2)], [1, 2, "b", "a", True])
        self.assertEqual([m.end("b"), m.end("a")], ["b", "a"])
        self.assertIs(Machine(Program.read(""), strict=False).strict, False)
        self.assertIs(Machine(Program.read(""), strict=True).strict, True)

    def test_strict_is_passed_by_keyword(self):
        with self.assertRaises(TypeError):
            Machine(Program.read(""), False)

    def test_the_empty_program(self):
        m = Machine(Program.read(""))
        self.assertEqual([m([]), m.place, m.ended, m.events()], [[], 1, True, []])
        self.refused(Ended, 1, lambda: m([]))
        m = Machine(Program.read("out a"))
        self.assertEqual([m(()), m.place, m.ended, m.end("a"), m.value_of("a"), m.alive(1)], [[], 1, True, "a", 1, True])

    def test_events_of_one_step(self):
        p = Program.read("fun g 2 1 2\nout a\nval v = g(copy(a),pick(a,new()))\nuse g(then(new(),v),a)\nref r = copy(v)")
        m = Machine(p)
        self.assertEqual(m([0, 0, 0, 0, 2, 1]), [
            ("look", 1), ("birth", 2, "1.1"), ("birth", 3, "1.3"), ("look", 2), ("look", 3), ("look", 2),
            ("birth", 4, "v"), ("death", 3), ("death", 2),
        ])
        self.assertEqual(m([0, 0, 0, 0, 1]), [
            ("birth", 5, "2.0"), ("look", 4), ("look", 1), ("look", 4), ("death", 5),
        ])
        self.assertEqual(m([0, 0]), [("look", 4), ("birth", 6, "3.1")])
        self.assertEqual(m([]), [("death", 6), ("death", 4)])

    def test_numbers_of_an_if(self):
        p = Program.read("if\nuse new()\nelse\nend\nif\nend\nuse new()")
        for choices, places in [([[1], [0], [], [1], []], [2, 3, 5, 6, 7]), ([[2], [], [2]], [4, 5, 7])]:
            m = Machine(p)
            seen = []
            for choice in choices:
                m(choice)
                seen.append(m.place)
            self.assertEqual(seen, places)

    def test_a_value_that_is_made_again_in_a_later_round(self):
        p = Program.read("ref k = new()\nloop\nref x = pick(new(),new())\nset k = x\nend")
        m = Machine(p)
        m([0])
        m([1])
        self.assertEqual(m([0, 0, 1]), [("birth", 2, "3.0")])
        m([0])
        self.assertEqual([m.end("k"), m([]), m.end("k"), m.place], ["2", [("death", 2)], "dead", 2])
        m([1])
        self.assertEqual(m([0, 0, 2]), [("birth", 3, "3.1")])
        self.assertEqual([m.end("k"), m.end("x"), m.value_of("x")], ["dead", "2", 3])
        m([0])
        self.assertEqual(m([]), [("death", 3)])
        m([1])
        self.assertEqual(m([0, 0, 1]), [("birth", 4, "3.0")])
        self.assertEqual([m.alive(k) for k in range(1, 5)], [True, False, False, True])
        self.assertEqual([m.told(k) for k in range(1, 5)], ["1.0", "3.0", "3.1", "3.0"])
        m([0])
        self.assertEqual([m([]), m([2]), m([])], [[("death", 4)], [], [("death", 1)]])
        self.assertEqual([m.ended, m.place], [True, 6])

    def test_new_lists(self):
        m = Machine(Program.read("use new()"))
        events = m([0])
        events.append("q")
        m.events().append("q")
        self.assertEqual(m.events(), [("birth", 1, "1.0"), ("look", 1), ("death", 1)])
        self.assertIs(type(m.events()), list)

    def test_choices_are_not_modified(self):
        choice = [0, 0, 2]
        m = Machine(Program.read("ref x = pick(new(),new())"))
        m(choice)
        self.assertEqual(choice, [0, 0, 2])

    def test_runs_by_chance(self):
        for chance, p in some_programs(1, 250):
            m, run = Machine(p, strict=False), Run(p)
            self.assertEqual(state(m, p), naive_state(run, False))
            for _ in range(50):
                choices = run.choices()
                if not choices:
                    break
                choice = chance.choice(choices)
                choice = choice if chance.random() < 0.5 else list(choice)
                self.assertEqual(m(choice), run.step(choice))
                self.assertEqual(state(m, p), naive_state(run, False))

    def test_strict_runs_by_chance(self):
        refused = 0
        for chance, p in some_programs(2, 400):
            m, run = Machine(p), Run(p)
            for _ in range(40):
                choices = run.choices()
                if not choices:
                    break
                choice = chance.choice(choices)
                before, place = state(m, p), run.place
                events = run.step(choice)
                dead = [event[1] for event in events if event[0] == "dead look"]
                if dead:
                    error = self.refused(DeadLook, run.values[dead[0] - 1]["text"], lambda: m(choice))
                    self.assertEqual([error.row, state(m, p)], [place, before])
                    refused += 1
                    break
                self.assertEqual(m(choice), events)
                self.assertEqual(state(m, p), naive_state(run, True))
        self.assertGreater(refused, 20)


class DeadLookTest(MachineCase):
    def test_example(self):
        error = self.refused(DeadLook, "1.0", lambda: replay(Program.read(DEAD), [[0, 1], [0]]))
        self.assertEqual(error.row, 2)

    def test_a_lenient_machine_goes_on(self):
        m = Machine(Program.read(DEAD), strict=False)
        m([0, 1])
        self.assertEqual([m([0]), m.place, m([]), m.ended], [[("dead look", 1)], 3, [], True])

    def test_a_later_look_of_a_step(self):
        p = Program.read("fun f 1 1\nfun g 3 1 2 3\nout a\nref x = f(new())\nref y = f(copy(a))\nuse g(new(),g(a,y,x),y)")
        choice = [0, 0, 0, 0, 2, 0, 1]
        m = Machine(p, strict=False)
        m([0, 1])
        m([0, 0, 1])
        self.assertEqual(m(choice), [
            ("birth", 4, "3.0"), ("look", 1), ("dead look", 3), ("dead look", 2), ("look", 4), ("dead look", 3),
            ("dead look", 3), ("look", 4), ("death", 4),
        ])
        m = Machine(p)
        m([0, 1])
        m([0, 0, 1])
        before = state(m, p)
        error = self.refused(DeadLook, "2.1", lambda: m(choice))
        self.assertEqual([error.row, state(m, p)], [3, before])

    def test_looks_at_results(self):
        text = "fun f 1 1\nref x = f(new())\n"
        for row, steps in [("use x", [[0]]), ("use part(x)", [[0, 0]]), ("val y = x", [[0]]), ("use copy(x)", [[0, 0]]),
                           ("ref y = f(x)", [[0, 1]]), ("set x = copy(x)", [[0, 0]])]:
            error = self.refused(DeadLook, "1.0", lambda: replay(Program.read(text + row), [[0, 1]] + steps))
            self.assertEqual(error.row, 2)
        for row, steps in [("ref y = x", [0]), ("set x = part(x)", [0, 0]), ("use then(x,new())", [0, 0, 0]),
                           ("use pick(x,new())", [0, 0, 2]), ("val y = then(x,new())", [0, 0, 0])]:
            self.assertEqual(replay(Program.read(text + row), [[0, 1], steps]).place, 3)

    def test_the_first_dead_look_decides(self):
        p = Program.read("fun f 1 1\nfun g 2\nref x = f(new())\nref y = f(new())\nuse g(y,x)")
        m = replay(p, [[0, 1], [0, 1]])
        self.assertEqual(self.refused(DeadLook, "2.0", lambda: m([0, 0, 0])).row, 3)

    def test_a_value_of_an_earlier_step_is_dead_and_one_of_the_same_row_is_not(self):
        p = Program.read("fun f 1 1\nout a\nloop\nuse f(a)\nset a = f(new())\nend")
        m = Machine(p, strict=False)
        m([1])
        self.assertEqual(m([0, 1]), [("look", 1), ("look", 1)])
        self.assertEqual(m([0, 1]), [("birth", 2, "3.0"), ("look", 2), ("death", 2)])
        m([])
        m([1])
        self.assertEqual(m([0, 1]), [("dead look", 2), ("dead look", 2)])


class EndTest(MachineCase):
    def ends(self, text, run, name="x"):
        """The end of a reference before each step of a run and behind it, None where it is not in scope."""
        m = Machine(Program.read(text), strict=False)
        found = []
        for choice in [None] + run:
            if choice is not None:
                m(choice)
            try:
                found.append(m.end(name))
            except UnknownName as error:
                self.assertEqual(error.what, name)
                found.append(None)
        return found

    def test_outs(self):
        self.assertEqual(self.ends("out a b\nref x = b\nset x = a", [[0], [0], []]), [None, "b", "a", None])
        self.assertEqual(self.ends("out a b\nset a = b", [[0], []], "a"), ["a", "b", "b"])

    def test_depths(self):
        text = "ref x = new()\nblock\nval a = new()\nset x = a\nblock\nend\nend"
        self.assertEqual(self.ends(text, [[0], [], [0], [0], [], [], [], []]),
                         [None, "1", "1", "1", "2", "2", "2", "dead", None])
        self.assertEqual(self.ends("out b\nval a = new()\nset b = a", [[0], [0], []], "b"), ["b", "b", "1", "dead"])
        deep = "\n".join(["out x"] + ["block"] * 7 + ["val a = new()", "set x = a"] + ["end"] * 7)
        run = [[]] * 7 + [[0], [0]] + [[]] * 8
        self.assertEqual(self.ends(deep, run), ["x"] * 9 + ["8"] + ["dead"] * 8)

    def test_loose_temporaries(self):
        text = "fun f 1 1\nout x\nblock\nset x = f(new())\nblock\nend\nend\nuse new()"
        self.assertEqual(self.ends(text, [[], [0, 1], [], [], [], [0], []]),
                         ["x", "x", "2.0", "2.0", "2.0", "dead", "dead", "dead"])
        self.assertEqual(self.ends("out x\nset x = new()", [[0], []]), ["x", "1.0", "dead"])
        self.assertEqual(self.ends("fun f 1 1\nref x = f(new())", [[0, 1], []]), [None, "1.0", None])

    def test_a_loose_temporary_of_an_earlier_round(self):
        text = "out x\nloop\nset x = pick(x,new())\nend"
        run = [[1], [0, 0, 2], [], [1], [0, 0, 1], [], [1], [0, 0, 2], [], [2], []]
        self.assertEqual(self.ends(text, run),
                         ["x", "x", "2.1", "dead", "dead", "dead", "dead", "dead", "2.1", "dead", "dead", "dead"])

    def test_parts_of_an_if(self):
        text = "out x\nif\nset x = new()\nelse\nset x = new()\nend"
        self.assertEqual(self.ends(text, [[1], [0], [], []]), ["x", "x", "2.0", "dead", "dead"])
        self.assertEqual(self.ends(text, [[2], [0], [], []]), ["x", "x", "4.0", "dead", "dead"])

    def test_a_loose_temporary_in_front_of_blocks(self):
        text = "fun f 1 1\nref x = f(new())\nif\nelse\nloop\nend\nend"
        self.assertEqual(self.ends(text, [[0, 1], [2], [1], [], [2], [], []]), [None] + ["1.0"] * 6 + [None])

    def test_no_references(self):
        p = Program.read("out a\nval v = a\nblock\nref x = a\nend")
        m = Machine(p)
        for name in ["v", "x", "q"] + LOOSE_KEYS:
            if name != "a":
                self.refused(UnknownName, name, lambda: m.end(name))
        m([0])
        self.refused(UnknownName, "v", lambda: m.end("v"))
        m([])
        m([0])
        self.assertEqual(m.end("x"), "a")
        m([])
        self.refused(UnknownName, "x", lambda: m.end("x"))
        m([])
        for name in ["v", "x", "q"] + LOOSE_KEYS:
            self.refused(UnknownName, name, lambda: m.end(name))
        self.assertEqual(m.end("a"), "a")


class AskTest(MachineCase):
    def test_value_of(self):
        p = Program.read("out a\nval v = a\nblock\nref x = v\nend\nset a = v")
        m = Machine(p)
        self.refused(UnknownName, "v", lambda: m.value_of("v"))
        m([0])
        self.assertEqual([m.value_of("a"), m.value_of("v")], [1, 2])
        self.refused(UnknownName, "x", lambda: m.value_of("x"))
        m([])
        m([0])
        self.assertEqual(m.value_of("x"), 2)
        m([])
        self.refused(UnknownName, "x", lambda: m.value_of("x"))
        m([0])
        self.assertEqual([m.value_of("a"), m.value_of("v")], [2, 2])
        m([])
        self.assertEqual(m.value_of("a"), 2)
        for name in ["v", "x", "q", "1.0"] + LOOSE_KEYS:
            self.refused(UnknownName, name, lambda: m.value_of(name))

    def test_told_and_alive(self):
        p = Program.read("out a\nval v = copy(a)")
        m = Machine(p)
        for number in [2, 3]:
            self.refused(NoValue, number, lambda: m.told(number))
            self.refused(NoValue, number, lambda: m.alive(number))
        m([0, 0])
        self.assertEqual([m.told(k) for k in (1, 2, 3)], ["a", "1.1", "v"])
        self.assertEqual([m.alive(k) for k in (1, 2, 3)], [True, False, True])
        m([])
        self.assertEqual([m.told(k) for k in (1, 2, 3)], ["a", "1.1", "v"])
        self.assertEqual([m.alive(k) for k in (1, 2, 3)], [True, False, False])
        for number in [0, 4, -1, HUGE] + [key for key in LOOSE_KEYS if not (type(key) is int and 1 <= key <= 3)]:
            self.refused(NoValue, number, lambda: m.told(number))
            self.refused(NoValue, number, lambda: m.alive(number))


class BadChoiceTest(MachineCase):
    TEXT = "out a\nuse pick(a,copy(a))\nblock\nif\nelse\nend\nend\nloop\nend"

    def machine_at(self, place):
        m = Machine(Program.read(self.TEXT))
        choices = {1: [0, 0, 0, 1], 3: [1 if place == 4 else 2], 7: [1 if place == 8 else 2]}
        while m.place != place:
            m(choices.get(m.place, []))
        return m

    def refuses(self, m, choice):
        program = Program.read(self.TEXT)
        before = state(m, program)
        with self.assertRaises(BadChoice) as caught:
            m(choice)
        self.assertTrue(same(caught.exception.what, choice))
        self.assertEqual(state(m, program), before)

    def test_expression_rows(self):
        m = self.machine_at(1)
        for choice in [[], [0, 0, 0], [0, 0, 0, 1, 0], [0, 0, 0, 0], [0, 0, 0, 3], [0, 0, 0, True], [0, False, 0, 1],
                       (0, 0, 0), (0, 0, 0, -1), [1], "0001", {0: 0, 1: 0, 2: 0, 3: 1}] + NO_LISTS:
            self.refuses(m, choice)
        self.assertEqual(m((0, 0, 0, 1)), [("look", 1)])

    def test_if_and_loop(self):
        for place in [3, 7]:
            for choice in [[], (), [0], [3], [-1], [1, 1], [1, 2], (1, 0), [HUGE], "1", b"\x01", [[1]]] + NO_LISTS:
                self.refuses(self.machine_at(place), choice)
            for thing in NO_INTEGERS:
                self.refuses(self.machine_at(place), [thing])
                self.refuses(self.machine_at(place), (thing,))
            for right in [[1], [2], (1,), (2,)]:
                self.assertEqual(self.machine_at(place)(right), [])

    def test_rows_without_a_choice(self):
        for place in [2, 4, 5, 6, 8]:
            for choice in [[0], [1], (1,), [True], [None], [[]], [()]] + NO_LISTS:
                self.refuses(self.machine_at(place), choice)
            for right in [[], ()]:
                self.assertEqual(self.machine_at(place)(right), [])

    def test_the_end(self):
        m = self.machine_at(9)
        self.assertEqual([m.place, m.ended], [9, False])
        for choice in [[0], [1], (0,), [None]] + NO_LISTS:
            self.refuses(m, choice)
        self.assertEqual([m([]), m.place, m.ended], [[], 9, True])

    def test_a_bad_choice_comes_before_a_dead_look(self):
        m = replay(Program.read(DEAD), [[0, 1]])
        self.refused(BadChoice, 7, lambda: m(7))
        with self.assertRaises(BadChoice):
            m([1])
        with self.assertRaises(DeadLook):
            m([0])

    def test_the_end_of_the_run_comes_first(self):
        p = Program.read("out a\nuse a")
        m = replay(p, [[0], []])
        before = state(m, p)
        for choice in [[], (), [0], [1]] + NO_LISTS:
            self.refused(Ended, 2, lambda: m(choice))
        self.assertEqual(state(m, p), before)


class WhatIfTest(MachineCase):
    def test_events_and_state(self):
        p = Program.read("ref x = new()\nloop\nset x = new()\nend\nuse new()")
        m = Machine(p)
        m([0])
        before = state(m, p)
        self.assertEqual(what_if(m, []), [])
        self.assertEqual(what_if(m, [[1], [0], []]), [("birth", 2, "3.0"), ("death", 2)])
        self.assertEqual(what_if(m, [[2], [0], []]),
                         [("birth", 2, "5.0"), ("look", 2), ("death", 2), ("death", 1)])
        self.assertEqual(what_if(m, ((2,), (0,), ())),
                         [("birth", 2, "5.0"), ("look", 2), ("death", 2), ("death", 1)])
        self.assertEqual(state(m, p), before)

    def test_errors(self):
        p = Program.read(DEAD)
        m = Machine(p)
        for choices, error, what in [
            ([[0, 1], [0]], DeadLook, "1.0"), ([[0, 1], [0], []], DeadLook, "1.0"), ([7], BadChoice, 7),
            ([[0, 1], None], BadChoice, None), ([[0, 1], [0, 0]], BadChoice, [0, 0]),
        ]:
            before = state(m, p)
            with self.assertRaises(error) as caught:
                what_if(m, choices)
            self.assertEqual(caught.exception.what, what)
            self.assertEqual(state(m, p), before)
        m = Machine(p, strict=False)
        before = state(m, p)
        with self.assertRaises(Ended) as caught:
            what_if(m, [[0, 1], [0], [], []])
        self.assertEqual([caught.exception.what, state(m, p)], [3, before])
        self.assertEqual(what_if(m, [[0, 1], [0], []]),
                         [("birth", 1, "1.0"), ("look", 1), ("death", 1), ("dead look", 1)])

    def test_inside_many_blocks(self):
        p = Program.read("\n".join(["block"] * 7 + ["val a = new()"] + ["end"] * 7))
        m = replay(p, [[]] * 7 + [[0]])
        before = state(m, p)
        self.assertEqual(what_if(m, [[]] * 8), [("death", 2)])
        self.assertEqual(state(m, p), before)

    def test_behind_the_end(self):
        p = Program.read("out a")
        m = replay(p, [[]])
        before = state(m, p)
        self.assertEqual(what_if(m, []), [])
        with self.assertRaises(Ended):
            what_if(m, [[]])
        self.assertEqual(state(m, p), before)

    def test_by_chance(self):
        for chance, p in some_programs(3, 150):
            strict = chance.random() < 0.5
            m, run = Machine(p, strict=strict), Run(p)
            for _ in range(12):
                choices = run.choices()
                if not choices:
                    break
                before = state(m, p)
                tried = self.tried(chance, p, run, strict)
                try:
                    expected = replay(p, run_so_far(run) + tried, strict=strict).events()[len(m.events()):]
                except LivesError as error:
                    with self.assertRaises(type(error)) as caught:
                        what_if(m, tried)
                    self.assertEqual(caught.exception.what, error.what)
                else:
                    self.assertEqual(what_if(m, tried), expected)
                self.assertEqual(state(m, p), before)
                choice = chance.choice(choices)
                try:
                    m(choice)
                except DeadLook:
                    break
                run.step(choice)
                run.done = run_so_far(run) + [choice]

    def tried(self, chance, p, run, strict):
        other = replay_naive(p, run_so_far(run))
        tried = []
        for _ in range(chance.randint(0, 5)):
            tried.append(chance.choice(other.choices() or [[]]))
            if not other.ended:
                other.step(tried[-1])
        return tried


def run_so_far(run):
    return list(getattr(run, "done", []))


def replay_naive(program, choices):
    run = Run(program)
    for choice in choices:
        run.step(choice)
    return run


class ReplayTest(MachineCase):
    def test_machines(self):
        p = Program.read(DEAD)
        m = replay(p, [])
        self.assertEqual([m.place, m.strict, m.events()], [1, True, []])
        m = replay(p, [[0, 1], [0]], strict=False)
        self.assertEqual([m.place, m.strict, m.events()],
                         [3, False, [("birth", 1, "1.0"), ("look", 1), ("death", 1), ("dead look", 1)]])
        self.assertIsInstance(m, Machine)
        self.assertEqual(replay(p, ((0, 1), (0,), ()), strict=False).ended, True)

    def test_errors(self):
        p = Program.read(DEAD)
        with self.assertRaises(DeadLook) as caught:
            replay(p, [[0, 1], [0]])
        self.assertEqual([caught.exception.row, caught.exception.what], [2, "1.0"])
        with self.assertRaises(BadChoice) as caught:
            replay(p, [[0, 1], [0, 0]])
        self.assertEqual(caught.exception.what, [0, 0])
        with self.assertRaises(Ended) as caught:
            replay(p, [[0, 1], [0], [], []], strict=False)
        self.assertEqual(caught.exception.what, 3)

    def test_two_machines_of_one_program(self):
        p = Program.read("out a\nset a = new()")
        one, other = Machine(p), Machine(p)
        one([0])
        self.assertEqual([one.end("a"), other.end("a"), other.place, other.events()], ["1.0", "a", 1, []])

    def test_many_rounds(self):
        p = Program.read("loop\nval a = new()\nend")
        m = replay(p, [[1], [0], []] * 500)
        self.assertEqual([m.place, len(m.events()), m.told(1000), m.alive(1000)], [1, 2500, "a", False])


if __name__ == "__main__":
    unittest.main()
