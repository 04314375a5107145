"""All that runs of a program come to, found with the machine, one step after the other, for the tests."""

from making import all_choices
from unnamedlives.layout import references
from unnamedlives.machine import Machine


def choices_at(program, k):
    """All choices for the step at place k."""
    row = program[k] if k <= len(program) else None
    if row is not None and row.expression is not None:
        return all_choices(row.expression, program.book)
    return [(1,), (2,)] if row is not None and row.kind in ("if", "loop") else [()]


def state_of(program, machine):
    """The place of a machine and the end of each reference in scope there."""
    return machine.place, tuple((name, machine.end(name)) for name in references(program, machine.place))


class Runs:
    """The states to which lenient runs come, each with the least number of steps, and what their steps look at.

    What a step does to the ends depends on the ends alone, so one run is gone on with from each state.
    """

    def __init__(self, program):
        self.program = program
        self.steps_to, self.distances = {}, {}
        self.dead_looks, self.outs_looked_at = {}, set()
        machine = Machine(program, strict=False)
        states, waiting, steps = {state_of(program, machine)}, [machine], 0
        while waiting:
            coming = []
            for machine in waiting:
                self.note(machine, steps)
                for choice in choices_at(program, machine.place):
                    other = self.stepped(machine, choice, steps)
                    if not other.ended and state_of(program, other) not in states:
                        states.add(state_of(program, other))
                        coming.append(other)
            waiting, steps = coming, steps + 1

    def note(self, machine, steps):
        place, ends = state_of(self.program, machine)
        self.steps_to.setdefault(place, steps)
        for name, end in ends:
            self.distances.setdefault((place, name, end), steps)

    def stepped(self, machine, choice, steps):
        """A machine one step on; notes its looks."""
        other = machine.twin()
        for event in other(choice):
            if event[0] == "dead look":
                self.dead_looks.setdefault(machine.place, steps + 1)
            elif event[0] == "look" and event[1] <= len(self.program.outs):
                self.outs_looked_at.add(self.program.outs[event[1] - 1])
        return other

    def first_dead_look(self):
        """The least number of steps of a run up to a dead look, None if there is none."""
        return min(self.dead_looks.values(), default=None)

    def effect(self):
        """Whether a run looks at a dead value, the looks, and what each out gives, in the normal form."""
        outs, last = self.program.outs, len(self.program) + 1
        if self.dead_looks:
            return True, (), {out: ("dead",) for out in outs}
        gives = {}
        for out in outs:
            ends = {end if end in outs else "dead" for place, name, end in self.distances if (place, name) == (last, out)}
            gives[out] = ("dead",) if "dead" in ends else tuple(sorted(ends))
        return False, tuple(sorted(self.outs_looked_at)), gives


def all_runs(program, steps):
    """Yields the machines after all lenient runs of at most so many steps, each with its number of steps."""
    waiting = [Machine(program, strict=False)]
    for done in range(steps + 1):
        for machine in waiting:
            yield machine, done
        coming = []
        for machine in waiting:
            for choice in [] if machine.ended else choices_at(program, machine.place):
                other = machine.twin()
                other(choice)
                coming.append(other)
        waiting = coming
