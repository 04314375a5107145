"""The machine, which does one run of a program step by step."""

from unnamedlives.errors import BadChoice, DeadLook, Ended, NoValue, UnknownName
from unnamedlives.evaluating import fits, options, outcome
from unnamedlives.integers import is_integer_in
from unnamedlives.layout import after, depth, in_scope
from unnamedlives.lifetimes import deaths, site


def row_at(program, k):
    """Row k of the program, None at its end."""
    return program[k] if k <= len(program) else None


def step_options(program, k):
    """The list of tuples of the integers that a choice for the step at place k may have."""
    row = row_at(program, k)
    if row is not None and row.expression is not None:
        return options(row.expression, program.book)
    return [(1, 2)] if len(after(program, k)) == 2 else []


class Machine:
    """A run of a program. Blocks are told apart by their openings: each time a block opens it has a new number."""

    def __init__(self, program, *, strict=True):
        self.place = 1
        self.ended = False
        self.strict = strict
        self._program = program
        # For each value its text, the row that made it (0 for an outside one), and the opening of its block.
        self._values = [(name, 0, 0) for name in program.outs]
        self._living = [True for _ in program.outs]
        self._bound = {name: number for number, name in enumerate(program.outs, start=1)}
        self._latest = {}
        self._opened = [1]
        self._openings = 1
        self._events = []

    def __call__(self, choice):
        """Does one step, and returns the list of its events."""
        if self.ended:
            raise Ended(self.place)
        if not fits(choice, step_options(self._program, self.place)):
            raise BadChoice(choice)
        events, result = self._foreseen(choice)
        self._check_looks(events)
        self._make(events)
        self._bind(result)
        events.extend(self._die())
        self._go(choice)
        self._events.extend(events)
        return events

    def _foreseen(self, choice):
        """The events of a step up to its deaths, and the number of the value to which it binds; changes nothing."""
        row = row_at(self._program, self.place)
        if row is None or row.expression is None:
            return [], None
        seen, source = outcome(row.expression, self._program.book, choice)
        events = []
        numbers = dict(self._bound)
        following = len(self._values) + 1
        for kind, what in seen:
            if kind == "birth":
                numbers[what] = following
                events.append(("birth", following, site(self.place, what)))
                following += 1
            else:
                events.append(self._look(numbers[what]))
        if row.kind == "use" or row.kind == "val":
            events.append(self._look(numbers[source]))
        if row.kind == "val":
            events.append(("birth", following, row.name))
            return events, following
        return events, numbers[source]

    def _look(self, number):
        # A value that this step is about to make is not in the list yet; it is alive.
        is_dead = number <= len(self._living) and not self._living[number - 1]
        return ("dead look", number) if is_dead else ("look", number)

    def _check_looks(self, events):
        dead = [event[1] for event in events if event[0] == "dead look"]
        if self.strict and dead:
            raise DeadLook(self.place, self.told(dead[0]))

    def _make(self, events):
        for event in events:
            if event[0] == "birth":
                self._values.append((event[2], self.place, self._opened[-1]))
                self._living.append(True)
                self._latest[event[2]] = event[1]

    def _bind(self, number):
        row = row_at(self._program, self.place)
        if row is not None and row.name != "":
            self._bound[row.name] = number

    def _die(self):
        events = []
        for text in deaths(self._program, self.place):
            number = self._latest.get(text, 0)
            if number > 0 and self._living[number - 1]:
                self._living[number - 1] = False
                events.append(("death", number))
        return events

    def _go(self, choice):
        row = row_at(self._program, self.place)
        if row is None or row.kind == "else" or row.kind == "end":
            self._opened.pop()
        places = after(self._program, self.place)
        if not places:
            self.ended = True
            return
        self.place = places[choice[0] - 1] if len(places) == 2 else places[0]
        if depth(self._program, self.place) > len(self._opened):
            self._openings += 1
            self._opened.append(self._openings)

    def _is_in_scope(self, name):
        names = self._program.outs if self.ended else in_scope(self._program, self.place)
        return name in names

    def events(self):
        """The list of the events of all steps so far."""
        return list(self._events)

    def value_of(self, name):
        """The number of the value to which a name in scope refers."""
        if not self._is_in_scope(name):
            raise UnknownName(name)
        return self._bound[name]

    def told(self, number):
        """The text of a value."""
        if not is_integer_in(number, 1, len(self._values)):
            raise NoValue(number)
        return self._values[number - 1][0]

    def alive(self, number):
        """True if a value is alive, otherwise False."""
        if not is_integer_in(number, 1, len(self._values)):
            raise NoValue(number)
        return self._living[number - 1]

    def end(self, name):
        """The end of a reference in scope."""
        if not self._is_in_scope(name) or self._program.kind_of(name) == "val":
            raise UnknownName(name)
        number = self._bound[name]
        text, row, opening = self._values[number - 1]
        if row == 0:
            return text
        if self._living[number - 1]:
            return str(depth(self._program, row))
        # A value that does not die before its block is dead only when the block is closed, so this one is loose.
        return text if opening in self._opened else "dead"

    def twin(self):
        """Another machine in the same state."""
        other = Machine(self._program, strict=self.strict)
        other.place = self.place
        other.ended = self.ended
        other._values = list(self._values)
        other._living = list(self._living)
        other._bound = dict(self._bound)
        other._latest = dict(self._latest)
        other._opened = list(self._opened)
        other._openings = self._openings
        other._events = list(self._events)
        return other


def what_if(machine, choices):
    """The list of the events of steps with these choices; the machine does not change."""
    events = []
    spare = machine.twin()
    for choice in choices:
        events.extend(spare(choice))
    return events


def replay(program, run, *, strict=True):
    """A new machine after a step with each choice of the run."""
    machine = Machine(program, strict=strict)
    for choice in run:
        machine(choice)
    return machine
