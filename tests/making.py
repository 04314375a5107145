"""Expressions and programs made by chance, for the tests."""

import itertools
import random

from unnamedlives.programs import Program
from unnamedlives.signatures import Book, Signature


def some_book(chance):
    """A book with up to four given signatures."""
    signatures = []
    for name in ["f", "g", "h", "join"][:chance.randint(0, 4)]:
        count = chance.randint(0, 4)
        sources = sorted(chance.sample(range(1, count + 1), chance.randint(0, count)))
        signatures.append(Signature(name, count, sources=sources))
    return Book(*signatures)


def some_expression(chance, book, names, most):
    """The text of an expression with at most so many nodes over these names, and how many it has."""
    shapes = [(name, 0) for name in names]
    shapes += [(signature.name + "(", signature.count) for signature in book]
    shapes += [("part(", 1), ("pick(", 2), ("pick(", 2), ("then(", 2)]
    word, count = chance.choice([shape for shape in shapes if shape[1] < most])
    if not word.endswith("("):
        return word, 1
    texts, used = [], 1
    for left in range(count, 0, -1):
        text, size = some_expression(chance, book, names, most - used - left + 1)
        texts.append(text)
        used += size
    return word + ",".join(texts) + ")", used


class Maker:
    """Makes the rows of a program, which keep the rules of scopes and blocks."""

    def __init__(self, chance, book, outs, nodes, tag=""):
        self.chance = chance
        self.book = book
        self.nodes = nodes
        self.tag = tag
        self.frames = [("program", [(name, "out") for name in outs])]
        self.lines = []
        self.many = 0

    def scope(self):
        return [pair for _, pairs in self.frames for pair in pairs]

    def expression(self):
        names = [name for name, _ in self.scope()]
        return some_expression(self.chance, self.book, names, self.chance.randint(1, self.nodes))[0]

    def declare(self, kind):
        name = f"{kind[0]}{self.tag}{self.many}"
        self.many += 1
        self.lines.append(f"{kind} {name} = {self.expression()}")
        self.frames[-1][1].append((name, kind))

    def row(self):
        kinds = ["use", "use", "block", "if", "loop"]
        references = [name for name, kind in self.scope() if kind != "val"]
        if self.many < 8:
            kinds += ["val", "ref", "ref"]
        if references:
            kinds += ["set", "set", "set"]
        if len(self.frames) > 1:
            kinds += ["end", "end"]
        if self.frames[-1][0] == "if":
            kinds += ["else"]
        kind = self.chance.choice(kinds)
        if kind == "use":
            self.lines.append("use " + self.expression())
        elif kind == "set":
            self.lines.append(f"set {self.chance.choice(references)} = {self.expression()}")
        elif kind in ("val", "ref"):
            self.declare(kind)
        else:
            self.lines.append(kind)
            if kind in ("else", "end"):
                self.frames.pop()
            if kind != "end":
                self.frames.append((kind, []))


def some_program(chance, rows, outs=("a", "b"), nodes=5, book=None, tag=""):
    """The text of a program with about so many rows. The tag is a part of all names that it declares."""
    book = some_book(chance) if book is None else book
    maker = Maker(chance, book, outs, nodes, tag)
    for _ in range(rows):
        if len(maker.frames) < 7:
            maker.row()
    maker.lines += ["end"] * (len(maker.frames) - 1)
    head = [signature.text() for signature in list(book)[2:]]
    if outs:
        head.append(" ".join(["out", *outs]))
    return "\n".join(head + maker.lines)


def some_programs(number, count, rows=14, nodes=5, outs=("b", "a")):
    """Programs with up to so many rows and some of the outs."""
    chance = random.Random(number)
    for _ in range(count):
        some = outs[:chance.randint(0, len(outs))]
        yield Program.read(some_program(chance, chance.randint(0, rows), outs=some, nodes=nodes))


def some_pairs(number, count, rows=7, outs=("b", "a", "c")):
    """Pairs of programs with the same outs, no other common name and one book."""
    chance = random.Random(number)
    for _ in range(count):
        book, some = some_book(chance), outs[:chance.randint(0, len(outs))]
        texts = [some_program(chance, chance.randint(0, rows), some, 3, book, tag) for tag in "pq"]
        yield Program.read(texts[0]), Program.read(texts[1])


def full_program(result, last, outs=tuple(f"a{i}" for i in range(16))):
    """A program at all bounds: 16 outs that are set 33 times to each other or to another result, in seven loops."""
    rows = [f"set {outs[i % 16]} = pick({outs[(i + 1) % 16]},{result})" for i in range(33)] + [last]
    return Program.read("\n".join(["out " + " ".join(outs)] + ["loop"] * 7 + rows + ["end"] * 7))


def allowed_at(node, book):
    """The numbers that a choice may have at a node."""
    if node[0] == "pick":
        return (1, 2)
    if node[0] == "call" and book[node[1]].sources:
        return book[node[1]].sources
    return (0,)


def all_choices(expression, book):
    """All choices for an expression."""
    return list(itertools.product(*[allowed_at(node, book) for node in expression.nodes]))
