import unittest

from exploring import Runs
from making import full_program, some_programs
from naive import Plan
from unnamedlives.errors import DeadLook
from unnamedlives.machine import replay
from unnamedlives.programs import Program
from unnamedlives.report import report
from unnamedlives.runs import shortest_fault


def naive_report(program):
    """The report, from all states of runs."""
    runs, plan = Runs(program), Plan(program)
    names = [name for name in program.names() if program.kind_of(name) != "val"]
    lines = ["     " + "".join(" " * (9 - len(name)) + name for name in names) + "  row"]
    for k in range(1, len(program) + 2):
        line = " " * (3 - len(str(k))) + str(k) + "  "
        for name in names:
            ends = [end for place, other, end in runs.distances if (place, other) == (k, name)]
            numbers = [99 if "." in end or end == "dead" else int(end) if end.isdigit() else 0 for end in ends]
            word = "-" if name not in plan.scope[k] else "dead" if 99 in numbers else str(max(numbers))
            line += " " * (9 - len(word)) + word
        lines.append(line + "  " + (program[k].text() if k <= len(program) else "end of program"))
    least = runs.first_dead_look()
    if least is None:
        lines.append("accepted")
    else:
        row = min(place for place, steps in runs.dead_looks.items() if steps == least)
        lines.append(f"fault at row {row} after {least} steps")
    return "\n".join(lines)


class ReportTest(unittest.TestCase):
    def check(self, text, *lines):
        self.assertEqual(report(Program.read(text)).split("\n"), list(lines))

    def test_example(self):
        found = report(Program.read("ref x = copy(new())\nuse x"))
        self.assertEqual(
            found, "             x  row\n  1          -  ref x = copy(new())\n  2          1  use x\n"
            "  3          1  end of program\naccepted")

    def test_the_empty_program(self):
        self.check("", "       row", "  1    end of program", "accepted")
        self.check("out b a", "             b        a  row", "  1          0        0  end of program", "accepted")

    def test_no_references(self):
        self.check("val v = new()\nloop\nuse v\nend", "       row", "  1    val v = new()", "  2    loop", "  3    use v",
                   "  4    end", "  5    end of program", "accepted")

    def test_each_kind_of_entry(self):
        self.check(
            "fun f 1 1\nout a longname\nval v = a\nif\nref x = pick(a,v)\nelse\nval w = a\nref eight8ch = w\n"
            "set longname = f(copy(eight8ch))\nend",
            "             a longname        x eight8ch  row",
            "  1          0        0        -        -  val v = a",
            "  2          0        0        -        -  if",
            "  3          0        0        -        -  ref x = pick(a,v)",
            "  4          0        0        1        -  else",
            "  5          0        0        -        -  val w = a",
            "  6          0        0        -        -  ref eight8ch = w",
            "  7          0        0        -        2  set longname = f(copy(eight8ch))",
            "  8          0     dead        -        2  end",
            "  9          0     dead        -        -  end of program",
            "accepted",
        )

    def test_the_greatest_depth(self):
        rows = ["block"] * 7 + ["ref x = new()", "use x"] + ["end"] * 7
        found = report(Program.read("\n".join(rows))).split("\n")
        self.assertEqual(found[9], "  9          8  use x")
        self.assertEqual(found[10], " 10          8  end")
        self.assertEqual(found[11], " 11          -  end")

    def test_faults(self):
        self.check("fun f 1 1\nref x = f(new())\nuse x", "             x  row", "  1          -  ref x = f(new())",
                   "  2       dead  use x", "  3       dead  end of program", "fault at row 2 after 2 steps")
        found = report(Program.read("val a = new()\nref x = a\nloop\nuse x\nval b = new()\nset x = b\nend"))
        self.assertEqual(found.split("\n")[-1], "fault at row 4 after 9 steps")

    def test_the_nearest_fault_and_the_least_row(self):
        for text, last in [
            ("out a b\nloop\nuse a\nset a = b\nset b = new()\nend\nset a = new()\nuse a", "fault at row 7 after 3 steps"),
            ("out a\nset a = new()\nif\nuse a\nelse\nuse a\nend", "fault at row 3 after 3 steps"),
            ("out a\nset a = new()\nif\nelse\nuse a\nend\nuse a", "fault at row 4 after 3 steps"),
            ("out a\nset a = new()\nloop\nblock\nuse a\nend\nend\nuse a", "fault at row 7 after 3 steps"),
            ("out a b\nset a = new()\nset b = a\nval v = then(copy(b),a)", "fault at row 3 after 3 steps"),
        ]:
            self.assertEqual(report(Program.read(text)).split("\n")[-1], last)

    def test_numbers_of_lines(self):
        p = Program.read("\n".join(["out a"] + ["use a"] * 48))
        lines = report(p).split("\n")
        self.assertEqual([len(lines), lines[48], lines[49]], [51, " 48          0  use a", " 49          0  end of program"])

    def test_by_all_states(self):
        faulty = 0
        for p in some_programs(1, 250, outs=("b", "longname")):
            with self.subTest(text=p.text()):
                found = report(p)
                self.assertEqual(found, naive_report(p))
                self.assertEqual(len(found.split("\n")), len(p) + 3)
                faulty += not found.endswith("accepted")
        self.assertGreater(faulty, 40)

    def test_the_last_line_and_the_shortest_run(self):
        faulty = 0
        for p in some_programs(2, 300, rows=20):
            last, run = report(p).split("\n")[-1], shortest_fault(p)
            if run is None:
                self.assertEqual(last, "accepted")
                continue
            words = last.split(" ")
            self.assertEqual([words[:3], words[4], words[6]], [["fault", "at", "row"], "after", "steps"])
            self.assertEqual(int(words[5]), len(run))
            with self.assertRaises(DeadLook) as caught:
                replay(p, run)
            self.assertLessEqual(int(words[3]), caught.exception.row)
            faulty += 1
        self.assertGreater(faulty, 60)

    def test_all_bounds_together(self):
        outs = [f"longna{i:02}" for i in range(16)]
        p = full_program("new()", "use longna00", outs)
        lines = report(p).split("\n")
        self.assertEqual([len(lines), lines[0]], [51, "     " + "".join(" " + out for out in outs) + "  row"])
        self.assertEqual(lines[1], "  1  " + "     dead" * 16 + "  loop")
        self.assertEqual(lines[50], f"fault at row 41 after {len(shortest_fault(p))} steps")


if __name__ == "__main__":
    unittest.main()
