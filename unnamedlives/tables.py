"""The table of ends: when the values to which references refer die, at each place and over all runs."""

from unnamedlives.errors import NoFact, UnknownName
from unnamedlives.integers import is_whole
from unnamedlives.layout import after, check_place, depth, references
from unnamedlives.lifetimes import extended, site
from unnamedlives.summaries import looked_at, results


def is_reference(program, thing):
    """True if a result of an expression of the program is a reference, otherwise False."""
    return isinstance(thing, str) and program.kind_of(thing) != "val"


def results_of(program, k):
    """The list of the results of the expression of row k."""
    return results(program[k].expression, program.book)[-1]


def looks_of(program, k):
    """The list of the references among the looks of row k, in the order of the program's names."""
    row = program[k]
    if row.expression is None:
        return []
    names = looked_at(row.expression, program.book)
    given = results_of(program, k) if row.kind in ("use", "val") else []
    return [name for name in references(program, k) if name in names or name in given]


def end_of_result(program, k, thing):
    """The end of a reference that row k binds to this result, which is not a reference itself."""
    if isinstance(thing, str):
        return str(depth(program, program.row_of(thing)))
    return str(depth(program, k)) if thing in extended(program, k) else site(k, thing)


def number_of(end):
    """The number of an end."""
    if end == "dead" or "." in end:
        return Lives.DEAD
    return int(end) if end.isdigit() else 0


class Step:
    """The step at row k, as a way from facts to facts.

    A place alone is a fact without a name and an end here: the step leads from the place k to the ends of new values.
    """

    def __init__(self, program, k):
        row = program[k]
        self._program = program
        self._place = k
        self._places = after(program, k)
        self._bound = row.name if row.kind in ("ref", "set") else ""
        self._closed = depth(program, k) if row.kind in ("else", "end") else 0
        self._kept = {q: self._kept_at(q) for q in self._places}
        given = results_of(program, k) if self._bound != "" else []
        self._sources = [thing for thing in given if is_reference(program, thing)]
        self._made = [end_of_result(program, k, thing) for thing in given if not is_reference(program, thing)]

    def _kept_at(self, q):
        names = references(self._program, self._place)
        return [name for name in names if name != self._bound and self._program.is_in_scope(q, name)]

    def _left(self, end):
        """What the end is after the step, if the row does not bind the reference; no depth is 0."""
        if "." in end:
            row = int(end.partition(".")[0])
            return "dead" if depth(self._program, row) == self._closed else end
        return "dead" if end == str(self._closed) else end

    def leads_to(self, fact):
        """The list of the facts to which the step leads from a fact at its place."""
        _, name, end = fact
        if name == "":
            places = [(q, "", "") for q in self._places]
            return places + [(self._place + 1, self._bound, made) for made in self._made]
        facts = [(q, name, self._left(end)) for q in self._places if name in self._kept[q]]
        if name in self._sources:
            facts.append((self._place + 1, self._bound, end))
        return facts


class Lives:
    """The table of a program.

    It is made from all facts, the places alone among them, with the distance and the cause of each.
    """

    DEAD = 99

    def __init__(self, program, found):
        self._program = program
        self._found = {fact: found[fact] for fact in found}
        self._facts = sorted([fact for fact in found if fact[1] != ""])
        self._ends = {(place, name): [] for place, name, _ in self._facts}
        for place, name, end in self._facts:
            self._ends[(place, name)].append(end)
        looks = {k: looks_of(program, k) for k in range(1, len(program) + 1)}
        dead = [fact for fact in self._facts if number_of(fact[2]) == self.DEAD]
        self._faults = [fact for fact in dead if fact[1] in looks.get(fact[0], [])]

    def _check(self, fact):
        # In Python True is equal to 1, but here it is no place; and a place alone is a fact in this file only.
        if not is_whole(fact[0]) or fact[1] == "" or fact not in self._found:
            raise NoFact(fact)

    def ends(self, place, name):
        """The list of the ends of a reference at a place."""
        check_place(self._program, place)
        if (place, name) not in self._ends:
            raise UnknownName(name)
        return list(self._ends[(place, name)])

    def number(self, place, name):
        """The greatest number of these ends."""
        return max([number_of(end) for end in self.ends(place, name)])

    def steps_to(self, place):
        """The distance of a place."""
        check_place(self._program, place)
        return self._found[(place, "", "")][0]

    def distance(self, place, name, end):
        """The distance of a fact."""
        self._check((place, name, end))
        return self._found[(place, name, end)][0]

    def cause(self, place, name, end):
        """A fact one step ahead from which the fact comes, None if it is there from the beginning or newly made."""
        self._check((place, name, end))
        cause = self._found[(place, name, end)][1]
        return None if cause is None or cause[1] == "" else cause

    def way(self, place, name, end):
        """The list of the facts on a shortest run to a fact, from the beginning on, the places alone among them."""
        self._check((place, name, end))
        fact = (place, name, end)
        facts = []
        while fact is not None:
            facts.append(fact)
            fact = self._found[fact][1]
        return facts[::-1]

    def faults(self):
        """The list of the faults."""
        return list(self._faults)

    def nearest_fault(self):
        """The first one of the faults with the least distance, None if there are no faults."""
        nearest = None
        for fault in self._faults:
            if nearest is None or self._found[fault][0] < self._found[nearest][0]:
                nearest = fault
        return nearest

    @property
    def accepted(self):
        """True if there are no faults, otherwise False."""
        return len(self._faults) == 0

    def walk(self):
        """Yields all facts."""
        yield from self._facts


def ways_from(steps, sources):
    """The list of the pairs of one of these facts and a fact to which it leads in one step."""
    return [(fact, other) for fact in sources if fact[0] in steps for other in steps[fact[0]].leads_to(fact)]


def explore(program):
    """The table of the program."""
    steps = {k: Step(program, k) for k in range(1, len(program) + 1)}
    found = {(1, "", ""): (0, None)}
    for name in program.outs:
        found[(1, name, name)] = (0, None)
    latest = list(found)
    # All facts of one distance are done before those of the next one, so each is found first by a shortest run.
    while latest:
        ways = ways_from(steps, latest)
        latest = []
        for fact, other in ways:
            if other not in found:
                found[other] = (found[fact][0] + 1, fact)
                latest.append(other)
    return Lives(program, found)
