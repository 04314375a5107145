"""The document's rules done another way, for the tests: blocks inside blocks, and runs with a frame for each block."""

from making import all_choices


class Plan:
    """Depths, closing rows, next places and scopes, found by reading parts inside parts."""

    def __init__(self, program):
        self.rows = [None] + list(program) + [None]
        self.kinds = [None] + [row.kind for row in program] + ["stop"]
        self.depth, self.closer, self.after, self.scope = {}, {}, {}, {}
        last = self.part(1, 1, list(program.outs), ["stop"])
        self.after[last] = []

    def part(self, k, level, names, ends):
        """Reads the part that begins at row k, and returns the row that ends it."""
        names, inside = list(names), []
        while self.kinds[k] not in ends:
            self.depth[k], self.scope[k] = level, list(names)
            inside.append(k)
            kind = self.kinds[k]
            if kind in ("use", "val", "ref", "set"):
                if kind in ("val", "ref"):
                    names.append(self.rows[k].name)
                self.after[k] = [k + 1]
                k += 1
            else:
                k = self.block(k, level + 1, names) + 1
        self.depth[k], self.scope[k] = level, names
        for row in inside + [k]:
            self.closer[row] = k
        return k

    def block(self, k, level, names):
        """Reads what row k opens, and returns its `end` row."""
        kind = self.kinds[k]
        middle = last = self.part(k + 1, level, names, ["else", "end"] if kind == "if" else ["end"])
        if self.kinds[middle] == "else":
            last = self.part(middle + 1, level, names, ["end"])
            self.after[middle] = [last + 1]
        self.after[k] = [k + 1] if kind == "block" else [k + 1, middle + 1]
        self.after[last] = [k] if kind == "loop" else [last + 1]
        return last


def visit(nodes, book, choice, at, steps, events):
    """What node `at` gives, evaluated in the order of its operands; notes the nodes and the events."""
    node = nodes[at]
    if node[0] == "pick":
        given = visit(nodes, book, choice, node[choice[at]], steps, events)
    elif node[0] == "call":
        arguments = [visit(nodes, book, choice, i, steps, events) for i in node[2]]
        events += [("look", given) for given in arguments]
        if book[node[1]].fresh:
            events.append(("birth", at))
        given = at if book[node[1]].fresh else arguments[choice[at] - 1]
    else:
        given = node[1]
        for i in [i for i in node[1:] if node[0] != "name"]:
            given = visit(nodes, book, choice, i, steps, events)
    steps.append(at)
    return given


def shown_below(nodes, book, at):
    """The set of the fresh calls that are reached from node `at`."""
    node = nodes[at]
    if node[0] == "call":
        return {at} if not book[node[1]].sources else set()
    if node[0] == "pick":
        return shown_below(nodes, book, node[1]) | shown_below(nodes, book, node[2])
    return set() if node[0] == "name" else shown_below(nodes, book, node[-1])


def listed(program):
    """All values: a list of text, row, and whether it lasts to the end of its block."""
    values = []
    for k, row in enumerate(program, start=1):
        if row.expression is not None:
            nodes = row.expression.nodes
            kept = shown_below(nodes, program.book, len(nodes) - 1) if row.kind == "ref" else set()
            for at, node in enumerate(nodes):
                if node[0] == "call" and not program.book[node[1]].sources:
                    values.append((f"{k}.{at}", k, at in kept))
            if row.kind == "val":
                values.append((row.name, k, True))
    return values


class Run:
    """A lenient run. Each open block has a frame: the list of the values that die with it."""

    def __init__(self, program):
        self.program = program
        self.plan = Plan(program)
        self.place = 1
        self.ended = False
        self.values = [{"text": name, "alive": True, "frame": None} for name in program.outs]
        self.bound = {name: number for number, name in enumerate(program.outs, start=1)}
        self.frames = [[]]
        self.events = []
        self.lasts = {text: lasts for text, _, lasts in listed(program)}

    def choices(self):
        """All choices for the next step."""
        if self.ended:
            return []
        row = self.plan.rows[self.place]
        if row is not None and row.expression is not None:
            return all_choices(row.expression, self.program.book)
        return [(1,), (2,)] if len(self.plan.after[self.place]) == 2 else [()]

    def born(self, text, events, short):
        value = {"text": text, "alive": True, "frame": self.frames[-1], "depth": len(self.frames)}
        self.values.append(value)
        number = len(self.values)
        (self.frames[-1] if self.lasts[text] else short).append(number)
        events.append(("birth", number, text))
        return number

    def look(self, number, events):
        events.append(("look" if self.values[number - 1]["alive"] else "dead look", number))

    def die(self, numbers, events):
        for number in reversed(numbers):
            self.values[number - 1]["alive"] = False
            events.append(("death", number))

    def evaluate(self, row, choice, events):
        numbers, seen, short = dict(self.bound), [], []
        nodes = row.expression.nodes
        result = visit(nodes, self.program.book, choice, len(nodes) - 1, [], seen)
        for kind, what in seen:
            if kind == "look":
                self.look(numbers[what], events)
            else:
                numbers[what] = self.born(f"{self.place}.{what}", events, short)
        if row.kind in ("use", "val"):
            self.look(numbers[result], events)
        if row.kind == "val":
            self.bound[row.name] = self.born(row.name, events, short)
        if row.kind in ("ref", "set"):
            self.bound[row.name] = numbers[result]
        self.die(short, events)

    def step(self, choice):
        """Does a step and returns its events."""
        events = []
        row = self.plan.rows[self.place]
        if row is None or row.kind in ("else", "end"):
            self.die(self.frames.pop(), events)
        if row is not None and row.expression is not None:
            self.evaluate(row, choice, events)
        places = self.plan.after[self.place]
        if not places:
            self.ended = True
        else:
            self.place = places[choice[0] - 1 if len(places) == 2 else 0]
            while len(self.frames) < self.plan.depth[self.place]:
                self.frames.append([])
        self.events += events
        return events

    def scope(self):
        return list(self.program.outs) if self.ended else self.plan.scope[self.place]

    def end(self, name):
        value = self.values[self.bound[name] - 1]
        if value["frame"] is None:
            return value["text"]
        if value["alive"]:
            return str(value["depth"])
        is_near = any(frame is value["frame"] for frame in self.frames)
        return value["text"] if is_near and not self.lasts[value["text"]] else "dead"


def moments(program):
    """All steps from all states of runs: the place, the set of the values alive in it, and the list of its deaths.

    A state is a place and the values alive there, with the depths at which they were made.
    """
    plan, lasts = Plan(program), {text: lasts for text, _, lasts in listed(program)}
    states, waiting, found = {(1, ())}, [(1, ())], []
    while waiting:
        k, alive = waiting.pop()
        row = plan.rows[k]
        ways = [(alive, [])]
        if row is None or row.kind in ("else", "end"):
            ways = [(alive, [text for text, level in reversed(alive) if level == plan.depth[k]])]
        elif row.expression is not None:
            ways = births(program, plan, k, alive, lasts)
        for now, deaths in ways:
            found.append((k, {text for text, _ in now}, deaths))
            left = tuple(pair for pair in now if pair[0] not in deaths)
            for q in plan.after[k]:
                if (q, left) not in states:
                    states.add((q, left))
                    waiting.append((q, left))
    return found


def births(program, plan, k, alive, lasts):
    """The ways to do the expression row k: the values alive after its births, and its deaths."""
    ways = []
    row, nodes = plan.rows[k], plan.rows[k].expression.nodes
    for choice in all_choices(row.expression, program.book):
        seen = []
        visit(nodes, program.book, choice, len(nodes) - 1, [], seen)
        texts = [f"{k}.{what}" for kind, what in seen if kind == "birth"] + [row.name] * (row.kind == "val")
        way = (alive + tuple((text, plan.depth[k]) for text in texts), [t for t in reversed(texts) if not lasts[t]])
        if way not in ways:
            ways.append(way)
    return ways


def outcomes(program, k):
    """The results of the expression of row k over all choices, and the looks of the row."""
    row, given, looks = program[k], set(), set()
    nodes = row.expression.nodes
    for choice in all_choices(row.expression, program.book):
        seen = []
        result = visit(nodes, program.book, choice, len(nodes) - 1, [], seen)
        given.add(result)
        looks |= {what for kind, what in seen if kind == "look" and isinstance(what, str)}
        if row.kind in ("use", "val") and isinstance(result, str):
            looks.add(result)
    return given, {name for name in looks if program.kind_of(name) != "val"}


def bound_at(program, k):
    """The reference that row k binds, None if there is none."""
    return program[k].name if k <= len(program) and program[k].kind in ("ref", "set") else None


def facts_made(program, plan, k):
    """The facts that come from the results of row k that are no references."""
    if bound_at(program, k) is None:
        return set()
    lasts, facts = {text: lasts for text, _, lasts in listed(program)}, set()
    for thing in outcomes(program, k)[0]:
        if isinstance(thing, int):
            end = str(plan.depth[k]) if lasts[f"{k}.{thing}"] else f"{k}.{thing}"
            facts.add((k + 1, bound_at(program, k), end))
        elif program.kind_of(thing) == "val":
            facts.add((k + 1, bound_at(program, k), str(plan.depth[program.row_of(thing)])))
    return facts


def facts_after(program, plan, fact):
    """The facts to which a fact leads in one step."""
    k, name, end = fact
    facts = set()
    for q in plan.after[k]:
        if name in plan.scope[q] and name != bound_at(program, k):
            is_closed = plan.kinds[k] in ("else", "end")
            made_at = plan.depth[int(end.split(".")[0])] if "." in end else int(end) if end.isdigit() else 0
            facts.add((q, name, "dead" if is_closed and made_at == plan.depth[k] else end))
    if bound_at(program, k) is not None and name in outcomes(program, k)[0]:
        facts.add((k + 1, bound_at(program, k), end))
    return facts
