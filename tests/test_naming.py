import itertools
import random
import unittest

from cases import Case
from exploring import Runs
from kinds import HUGE, LOOSE_KEYS
from making import some_programs
from naive import listed
from unnamedlives.errors import NoMend, NotLoose, TooLarge
from unnamedlives.lifetimes import loose
from unnamedlives.naming import mended, named, needed
from unnamedlives.programs import Program
from unnamedlives.tables import explore

ITEMS = "fun items 1 1\nref h = items(new())\nloop\nuse h\nref y = part(h)\nuse y\nend"
HEAD = "fun f 1 1\nfun g 2\n"


def loose_texts(program):
    return [text for text, _, lasts in listed(program) if not lasts]


def naive_text(nodes, names, at):
    """The text of node `at` with names in place of nodes, by recursion from the root."""
    if at in names:
        return names[at]
    node = nodes[at]
    if node[0] == "name":
        return node[1]
    operands = node[2] if node[0] == "call" else node[1:]
    inside = ",".join([naive_text(nodes, names, i) for i in operands])
    return (node[1] if node[0] == "call" else node[0]) + f"({inside})"


def naive_named(program, lot):
    """The text of the program after naming a lot."""
    names, number, lines = {}, 0, []
    for text in loose_texts(program):
        if text in lot:
            number += 1
            while f"n{number}" in program.names():
                number += 1
            names[text] = f"n{number}"
    for k, row in enumerate(program, start=1):
        own = {int(text.split(".")[1]): name for text, name in names.items() if text.split(".")[0] == str(k)}
        if row.expression is None:
            lines.append(row.kind)
            continue
        nodes = row.expression.nodes
        for i in sorted(own):
            inside = {j: name for j, name in own.items() if j != i}
            lines.append(f"val {own[i]} = {naive_text(nodes, inside, i)}")
        binds = f"{row.name} = " if row.name else ""
        lines.append(f"{row.kind} {binds}{naive_text(nodes, own, len(nodes) - 1)}")
    head = [signature.text() for signature in list(program.book)[2:]]
    if program.outs:
        head.append("out " + " ".join(program.outs))
    return "\n".join(head + lines)


class NamedTest(Case):
    def check(self, text, lot, expected):
        p = Program.read(HEAD + text)
        self.assertEqual(named(p, lot).text(), HEAD + expected)
        self.assertEqual(p.text(), HEAD + text)

    def test_example_of_the_document(self):
        self.check("ref x = f(copy(new()))", ["1.0", "1.1"], "val n1 = new()\nval n2 = copy(n1)\nref x = f(n2)")

    def test_the_order_and_kind_of_the_lot(self):
        for lot in [["1.0", "1.1"], ["1.1", "1.0"], ("1.1", "1.0"), ["1.1", "1.0", "1.1", "1.0"], ("1.0", "1.0", "1.1")]:
            self.check("ref x = f(copy(new()))", lot, "val n1 = new()\nval n2 = copy(n1)\nref x = f(n2)")

    def test_nodes_inside_one_another(self):
        text = "use g(copy(copy(new())),new())"
        for lot, expected in [
            (["1.0"], "val n1 = new()\nuse g(copy(copy(n1)),new())"),
            (["1.1"], "val n1 = copy(new())\nuse g(copy(n1),new())"),
            (["1.2"], "val n1 = copy(copy(new()))\nuse g(n1,new())"),
            (["1.3"], "val n1 = new()\nuse g(copy(copy(new())),n1)"),
            (["1.4"], "val n1 = g(copy(copy(new())),new())\nuse n1"),
            (["1.0", "1.2"], "val n1 = new()\nval n2 = copy(copy(n1))\nuse g(n2,new())"),
            (["1.1", "1.2"], "val n1 = copy(new())\nval n2 = copy(n1)\nuse g(n2,new())"),
            (["1.0", "1.3"], "val n1 = new()\nval n2 = new()\nuse g(copy(copy(n1)),n2)"),
            (["1.4", "1.3", "1.2", "1.1", "1.0"],
             "val n1 = new()\nval n2 = copy(n1)\nval n3 = copy(n2)\nval n4 = new()\nval n5 = g(n3,n4)\nuse n5"),
            (["1.0", "1.4"], "val n1 = new()\nval n2 = g(copy(copy(n1)),new())\nuse n2"),
        ]:
            self.check(text, lot, expected)

    def test_picks_and_thens(self):
        self.check("out a\nref x = f(pick(a,new()))", ["1.1"], "out a\nval n1 = new()\nref x = f(pick(a,n1))")
        self.check("out a\nref x = f(pick(copy(a),new()))", ["1.2", "1.1"],
                   "out a\nval n1 = copy(a)\nval n2 = new()\nref x = f(pick(n1,n2))")
        self.check("ref x = then(new(),part(new()))", ["1.0"], "val n1 = new()\nref x = then(n1,part(new()))")
        self.check("use part(then(pick(new(),new()),new()))", ["1.1", "1.3"],
                   "val n1 = new()\nval n2 = new()\nuse part(then(pick(new(),n1),n2))")

    def test_the_program_with_a_name_in_a_pick_is_accepted(self):
        p = Program.read("fun f 1 1\nout a\nref x = f(pick(a,new()))\nuse x")
        self.assertEqual([needed(p), explore(p).accepted, explore(mended(p)).accepted], [["1.1"], False, True])

    def test_each_kind_of_row(self):
        self.check("out a\nval v = new()\nset a = new()\nuse new()\nref x = f(new())", ["1.0", "2.0", "3.0", "4.0"],
                   "out a\nval n1 = new()\nval v = n1\nval n2 = new()\nset a = n2\nval n3 = new()\nuse n3\nval n4 = new()\n"
                   "ref x = f(n4)")

    def test_the_order_of_the_new_names(self):
        text = "\n".join(["block", "end"] * 4 + ["use new()", "use g(new(),new())"])
        self.check(text, ["10.2", "9.0", "10.0"], "\n".join(
            ["block", "end"] * 4 + ["val n1 = new()", "use n1", "val n2 = new()", "val n3 = g(n2,new())", "use n3"]))

    def test_several_nodes_of_more_than_ten(self):
        inside = "pick(new(),pick(new(),pick(new(),pick(new(),pick(new(),new())))))"
        p = Program.read("use " + inside)
        self.assertEqual(named(p, ["1.5", "1.0", "1.3"]).text(),
                         "val n1 = new()\nval n2 = new()\nval n3 = new()\n"
                         "use pick(n1,pick(new(),pick(new(),pick(n2,pick(new(),n3)))))")
        wide = "pick(pick(new(),new()),pick(pick(pick(new(),new()),new()),pick(pick(new(),new()),new())))"
        p = Program.read("use " + wide)
        self.assertEqual(named(p, ["1.11", "1.1", "1.8"]).text(),
                         "val n1 = new()\nval n2 = new()\nval n3 = new()\n"
                         "use pick(pick(new(),n1),pick(pick(pick(new(),new()),new()),pick(pick(n2,new()),n3)))")

    def test_rows_of_blocks(self):
        self.check("loop\nif\nuse new()\nelse\nref x = f(new())\nend\nend", ["3.0", "5.0"],
                   "loop\nif\nval n1 = new()\nuse n1\nelse\nval n2 = new()\nref x = f(n2)\nend\nend")

    def test_names_that_are_taken(self):
        self.check("out n1\nval n3 = n1\nuse g(new(),g(new(),new()))", ["2.0", "2.1", "2.2", "2.3", "2.4"],
                   "out n1\nval n3 = n1\nval n2 = new()\nval n4 = new()\nval n5 = new()\nval n6 = g(n4,n5)\n"
                   "val n7 = g(n2,n6)\nuse n7")
        # A name counts also if it is declared later, and in a block.
        self.check("use new()\nblock\nref n1 = new()\nend", ["1.0"], "val n2 = new()\nuse n2\nblock\nref n1 = new()\nend")
        p = Program.read("fun n1 1 1\nuse n1(new())")
        self.assertEqual(named(p, ["1.0"]).text(), "fun n1 1 1\nval n1 = new()\nuse n1(n1)")

    def test_the_empty_lot(self):
        for text in ["", "out a", ITEMS, "out n1\nuse n1"]:
            p = Program.read(text)
            for lot in [[], ()]:
                self.assertTrue(named(p, lot) == p)
                self.assertEqual(named(p, lot).text(), text)

    def test_the_arguments_are_not_modified(self):
        p, lot = Program.read(ITEMS), ["1.0", "1.0"]
        self.assertEqual(named(p, lot).text(), named(p, lot).text())
        self.assertEqual([p.text(), lot], [ITEMS, ["1.0", "1.0"]])

    def test_by_chance(self):
        chance = random.Random(1)
        for p in some_programs(1, 200, rows=8, outs=("b", "n1")):
            texts = loose_texts(p)
            lot = chance.sample(texts, min(len(texts), chance.randint(0, 7)))
            try:
                self.assertEqual(named(p, lot).text(), naive_named(p, lot))
            except TooLarge:
                with self.assertRaises(TooLarge):
                    Program.read(naive_named(p, lot))


class NotLooseTest(Case):
    def test_what_is_no_loose_temporary(self):
        p = Program.read(HEAD + "out a\nval v = new()\nref x = pick(new(),f(new()))\nuse x")
        self.assertEqual(loose_texts(p), ["1.0", "2.1"])
        for text in ["2.0", "2.2", "2.3", "1.1", "3.0", "4.0", "0.0", "v", "x", "a", "1.00", "01.0", "1.0 ", "1", "2.",
                     "dead", HUGE] + LOOSE_KEYS:
            for lot in [[text], ["1.0", text], (text, "1.0"), ["2.1", text, "q"], [text, None, True]]:
                self.refused(NotLoose, text, lambda: named(p, lot))

    def test_the_first_one_of_the_lot_counts(self):
        p = Program.read("use new()")
        for lot, what in [(["1.0", "z", "a"], "z"), (("b", "a"), "b"), ([3, "1.0", None], 3), (["1.0", None, 3], None)]:
            self.refused(NotLoose, what, lambda: named(p, lot))

    def test_the_lot_comes_before_the_bounds(self):
        p = Program.read("\n".join(["use new()"] * 48))
        self.refused(NotLoose, "49.0", lambda: named(p, ["1.0", "49.0"]))
        self.refused(TooLarge, "rows", lambda: named(p, ["1.0"]))

    def test_bounds(self):
        p = Program.read("\n".join(["use new()"] * 30))
        lot = [f"{k}.0" for k in range(1, 31)]
        self.assertEqual([len(named(p, lot[:16])), len(named(p, lot[:16]).names())], [46, 16])
        self.refused(TooLarge, "names", lambda: named(p, lot[:17]))
        self.refused(TooLarge, "names", lambda: named(p, lot[:18]))
        self.refused(TooLarge, "rows", lambda: named(p, lot[:19]))
        p = Program.read("\n".join(["out a"] + ["use pick(a,new())"] * 32 + ["use a"]))
        self.assertEqual(len(named(p, ["1.1", "2.1", "3.1"])), 36)
        self.refused(TooLarge, "nodes", lambda: named(p, ["1.1", "2.1", "3.1", "4.1"]))
        self.refused(TooLarge, "names", lambda: named(Program.read("out " + " ".join(
            f"a{i}" for i in range(16)) + "\nuse new()"), ["1.0"]))

    def test_all_bounds_together(self):
        outs = [f"a{i}" for i in range(14)]
        rows = ["use copy(pick(new(),a0))"] * 20 + ["use pick(a0,new())"] + ["use a1"] * 11
        p = Program.read("\n".join(["out " + " ".join(outs)] + ["loop"] * 7 + rows + ["end"] * 7))
        q = named(p, ["8.0", "8.3"])
        self.assertEqual([len(p), len(q), len(q.names()), sum(len(row.expression) for row in q if row.expression)],
                         [46, 48, 16, 96])
        self.assertEqual([row.text() for row in q][7:10], ["val n1 = new()", "val n2 = copy(pick(n1,a0))", "use n2"])


class NeededTest(Case):
    def test_examples(self):
        p = Program.read(ITEMS)
        self.assertEqual([needed(p), mended(p).text()], [
            ["1.0"], "fun items 1 1\nval n1 = new()\nref h = items(n1)\nloop\nuse h\nref y = part(h)\nuse y\nend"])
        p = Program.read("val a = new()\nref x = a\nloop\nuse x\nval b = new()\nset x = b\nend")
        self.refused(NoMend, (4, "x", "dead"), lambda: needed(p))
        self.refused(NoMend, (4, "x", "dead"), lambda: mended(p))

    def test_accepted_programs(self):
        for text in ["", "out a", "fun f 1 1\nref x = f(new())", "out a\nblock\nset a = new()\nend\nset a = a"]:
            p = Program.read(text)
            self.assertEqual(needed(p), [])
            self.assertTrue(mended(p) == p)

    def test_the_order_is_that_of_rows_and_nodes(self):
        rows = ["ref x = f(pick(new(),copy(new())))", *["block", "end"] * 4, "ref y = f(pick(x,pick(new(),g(new(),new()))))"]
        p = Program.read(HEAD + "\n".join(rows) + "\nuse x\nuse y")
        self.assertEqual(needed(p), ["1.0", "1.2", "10.1", "10.4"])
        wide = "pick(pick(new(),new()),pick(pick(pick(new(),new()),new()),pick(pick(new(),new()),new())))"
        p = Program.read(HEAD + f"ref x = f({wide})\nuse x")
        self.assertEqual(needed(p), ["1.0", "1.1", "1.3", "1.4", "1.6", "1.8", "1.9", "1.11"])

    def test_only_what_is_looked_at(self):
        p = Program.read(HEAD + "out a\nref x = f(copy(new()))\nref y = f(new())\nset a = new()\nuse x\nset a = y")
        self.assertEqual(needed(p), ["1.1"])

    def test_a_new_list_each_time(self):
        p = Program.read(ITEMS)
        self.assertIs(type(needed(p)), list)
        needed(p).clear()
        self.assertEqual(needed(p), ["1.0"])

    def test_the_first_fault_whose_end_is_dead(self):
        p = Program.read(HEAD + "out b a\nset a = new()\nblock\nset b = new()\nend\nuse a\nuse b\nuse b")
        self.assertEqual(explore(p).faults(), [(5, "a", "1.0"), (6, "b", "dead"), (7, "b", "dead")])
        self.refused(NoMend, (6, "b", "dead"), lambda: needed(p))
        p = Program.read(HEAD + "out b a\nblock\nset a = new()\nset b = new()\nend\nuse g(b,a)")
        self.refused(NoMend, (5, "a", "dead"), lambda: needed(p))

    def test_no_lot_mends_an_end_that_is_dead(self):
        p = Program.read("out a\nblock\nset a = new()\nend\nuse a")
        self.refused(NoMend, (4, "a", "dead"), lambda: needed(p))
        self.assertFalse(explore(named(p, ["2.0"])).accepted)

    def test_mended_in_a_loop(self):
        p = Program.read("fun f 1 1\nout a\nloop\nref x = f(new())\nuse x\nset a = f(copy(a))\nend")
        self.refused(NoMend, (4, "a", "dead"), lambda: needed(p))
        p = Program.read("fun f 1 1\nout a\nloop\nref x = f(new())\nuse x\nset x = f(copy(a))\nval v = x\nend")
        self.assertEqual(needed(p), ["2.0", "4.1"])
        self.assertEqual(mended(p).text(), "fun f 1 1\nout a\nloop\nval n1 = new()\nref x = f(n1)\nuse x\nval n2 = copy(a)\n"
                                           "set x = f(n2)\nval v = x\nend")
        self.assertTrue(explore(mended(p)).accepted)

    def test_a_program_that_grows_beyond_the_bounds(self):
        p = Program.read(HEAD + "\n".join(["out a", "set a = new()", "use a"] + ["use new()"] * 46))
        self.assertEqual(needed(p), ["1.0"])
        self.refused(TooLarge, "rows", lambda: mended(p))
        p = Program.read(HEAD + "out " + " ".join(f"a{i}" for i in range(16)) + "\nset a0 = new()\nuse a0")
        self.refused(TooLarge, "names", lambda: mended(p))

    def test_all_lots_of_small_programs(self):
        seen = {"dead": 0, "some": 0, "none": 0}
        for p in some_programs(2, 600, nodes=4, outs=("b", "n1")):
            texts = loose_texts(p)
            if len(texts) <= 6:
                seen[self.check_all_lots(p, texts)] += 1
        self.assertGreater(min(seen.values()), 15)

    def check_all_lots(self, p, texts):
        """Compares what is needed with the lots after which no run looks at a dead value."""
        try:
            kept = needed(p)
        except NoMend:
            kept = None
        for count in range(len(texts) + 1):
            for lot in itertools.combinations(texts, count):
                try:
                    q = named(p, lot)
                except TooLarge:
                    continue
                expected = kept is not None and all(text in lot for text in kept)
                self.assertIs(explore(q).accepted, expected, (p.text(), lot))
                if count <= 2:
                    self.assertIs(not Runs(q).dead_looks, expected, (p.text(), lot))
        return "dead" if kept is None else "some" if kept else "none"


class ByChanceTest(Case):
    def test_needed_and_mended(self):
        mends = 0
        for p in some_programs(3, 300):
            faults = explore(p).faults()
            dead = [fault for fault in faults if fault[2] == "dead"]
            if dead:
                self.refused(NoMend, dead[0], lambda: mended(p))
                continue
            ends = {fault[2] for fault in faults}
            self.assertEqual(needed(p), [text for text in loose_texts(p) if text in ends])
            self.assertEqual(loose_texts(p), [f"{k}.{i}" for k in range(1, len(p) + 1) for i in loose(p, k)])
            try:
                q = mended(p)
            except TooLarge:
                continue
            self.assertTrue(explore(q).accepted)
            self.assertEqual(q.text(), naive_named(p, needed(p)))
            mends += bool(ends)
        self.assertGreater(mends, 20)


if __name__ == "__main__":
    unittest.main()
