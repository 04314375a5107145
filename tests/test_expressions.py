import itertools
import random
import re
import unittest

from kinds import HUGE, same
from unnamedlives.errors import InvalidExpression, NoPlace, TooLarge
from unnamedlives.expressions import Expression
from unnamedlives.words import RESERVED

COUNTS = {"part": (1,), "pick": (2,), "then": (2,)}


class Wrong(Exception):
    pass


def reference(text):
    """The nodes of a text, read by the grammar as it is stated; Wrong if there are none."""
    nodes = []
    end = operand(text, 0, nodes)
    if end != len(text):
        raise Wrong(text)
    return nodes


def operand(text, at, nodes):
    word = re.compile("[a-z][a-z0-9]{0,7}(?![a-z0-9])").match(text, at)
    if not word:
        raise Wrong(text)
    name, at = word.group(), word.end()
    if text[at:at + 1] != "(":
        if name in RESERVED:
            raise Wrong(text)
        nodes.append(("name", name))
        return at
    if name in RESERVED and name not in COUNTS:
        raise Wrong(text)
    args, at = arguments(text, at + 1, nodes)
    if len(args) not in COUNTS.get(name, range(5)):
        raise Wrong(text)
    nodes.append((name, *args) if name in COUNTS else ("call", name, tuple(args)))
    return at


def arguments(text, at, nodes):
    if text[at:at + 1] == ")":
        return [], at + 1
    args = []
    while True:
        at = operand(text, at, nodes)
        args.append(len(nodes) - 1)
        sign = text[at:at + 1]
        at += 1
        if sign == ")":
            return args, at
        if sign != ",":
            raise Wrong(text)


def inner(node):
    """The operands of a node."""
    return {"name": (), "call": node[-1]}.get(node[0], node[1:])


def below(nodes, at):
    """The nodes at or below a node."""
    found = {at}
    for i in inner(nodes[at]):
        found |= below(nodes, i)
    return found


def written(nodes, at, named):
    """The text of a node."""
    if at in named:
        return named[at]
    node = nodes[at]
    if node[0] == "name":
        return node[1]
    word = node[1] if node[0] == "call" else node[0]
    return word + "(" + ",".join(written(nodes, i, named) for i in inner(node)) + ")"


def some_text(chance, most):
    """A text with at most so many nodes, and how many it has."""
    shapes = [("x", 0), ("y1", 0)]
    if most > 1:
        shapes = shapes + [("f", k) for k in range(5)]
        shapes = shapes + [("new", 0), ("copy", 1), ("part", 1), ("pick", 2), ("then", 2)]
    word, count = chance.choice([shape for shape in shapes if shape[1] < most])
    if word in ("x", "y1"):
        return word, 1
    texts, used = [], 1
    for left in range(count, 0, -1):
        text, size = some_text(chance, most - used - left + 1)
        texts.append(text)
        used += size
    return word + "(" + ",".join(texts) + ")", used


def wide(count):
    """A text with so many nodes, not nested deeper than needed."""
    text, size = "x", 1
    while size < count:
        args = min(3, count - size - 1)
        text, size = "f(" + ",".join([text] + ["y"] * args) + ")", size + args + 1
    return text


class ReadTest(unittest.TestCase):
    def right(self, text, nodes):
        expression = Expression.read(text)
        self.assertIsInstance(expression, Expression)
        self.assertEqual(expression.nodes, nodes)
        self.assertEqual(expression.text(), text)
        self.assertEqual(len(expression), len(nodes))

    def wrong(self, text):
        with self.subTest(text=text):
            with self.assertRaises(InvalidExpression) as caught:
                Expression.read(text)
            self.assertEqual(caught.exception.what, text)

    def too_large(self, text):
        with self.assertRaises(TooLarge) as caught:
            Expression.read(text)
        self.assertEqual(caught.exception.what, "nodes")

    def agrees(self, text):
        try:
            nodes = reference(text)
        except Wrong:
            self.wrong(text)
        else:
            self.right(text, nodes)

    def test_examples(self):
        self.right(
            "mix(new(),part(x))",
            [("call", "new", ()), ("name", "x"), ("part", 1), ("call", "mix", (0, 2))],
        )
        self.wrong("pick(x)")

    def test_every_kind_of_node(self):
        self.right("x", [("name", "x")])
        self.right("abcdefgh", [("name", "abcdefgh")])
        self.right("new()", [("call", "new", ())])
        self.right("part(x)", [("name", "x"), ("part", 0)])
        self.right("pick(x,y)", [("name", "x"), ("name", "y"), ("pick", 0, 1)])
        self.right("then(x,y)", [("name", "x"), ("name", "y"), ("then", 0, 1)])
        self.right("f(x)", [("name", "x"), ("call", "f", (0,))])
        self.right("f(f,f)", [("name", "f"), ("name", "f"), ("call", "f", (0, 1))])

    def test_postorder(self):
        self.right(
            "then(pick(f(new()),x),part(g(y,new(),x,z)))",
            [
                ("call", "new", ()), ("call", "f", (0,)), ("name", "x"), ("pick", 1, 2),
                ("name", "y"), ("call", "new", ()), ("name", "x"), ("name", "z"),
                ("call", "g", (4, 5, 6, 7)), ("part", 8), ("then", 3, 9),
            ],
        )

    def test_kinds_of_values(self):
        for node in Expression.read("f(pick(x,part(y)),then(new(),z))").nodes:
            self.assertIs(type(node), tuple)
            if node[0] == "call":
                self.assertIs(type(node[2]), tuple)

    def test_numbers_of_operands(self):
        for count in range(8):
            inside = "(" + ",".join(["x"] * count) + ")"
            (self.agrees if count <= 4 else self.wrong)("f" + inside)
            (self.agrees if count == 1 else self.wrong)("part" + inside)
            (self.agrees if count == 2 else self.wrong)("pick" + inside)
            (self.agrees if count == 2 else self.wrong)("then" + inside)

    def test_reserved_words(self):
        for word in RESERVED:
            self.wrong(word)
            self.wrong(f"f({word})")
            self.wrong(f"{word}()")
            self.wrong(f"{word}(x,y,z)")
            self.right(word + "1", [("name", word + "1")])
            self.right(word + "s()", [("call", word + "s", ())])
            if word not in COUNTS:
                self.wrong(f"{word}(x)")
                self.wrong(f"{word}(x,y)")

    def test_names(self):
        for name in ["abcdefghi", "X", "1", "1x", "x_", "_", "", "x.y", "x y", "\u00e9", "\uff41", "x\u0661"]:
            self.wrong(name)
            self.wrong(name + "(x,y)" if name else "(x,y)")
            self.wrong(f"f(x,{name})")
            self.wrong(f"part({name})")

    def test_signs_too_many_or_too_few(self):
        for text in [
            "", "(", ")", ",", "()", "(x)", "((x))", "x)", "(x", "x(", "x,", ",x", "x,y", "x y", "f(", "f)", "f(x",
            "f(x,", "f(x,)", "f(,x)", "f(,)", "f(x,,y)", "f(x)y", "xf(x)f", "f(x))", "f((x))", "f()()", "f(x)(y)",
            "f(x)g(y)", "f(x),", "f(x),y", "new()new()", "part((x))", "pick(x,y,)", "pick(,x,y)", "pick(x y)",
            "then(x;y)", "f[x]", "f{x}", "f(x)\n", "\nf(x)", "f(x)\r", "x\n", "f(x\n)", "f(\n)", " x", "x ", "f (x)",
            "f( x)", "f(x, y)", "f(x ,y)", "f(x) ", "\t", "f(x).part", "part.x", "f()x", "x()y", ")(", "f)(", ",()",
        ]:
            self.wrong(text)

    def test_all_short_texts(self):
        pieces = ["x", "f(", "part(", "pick(", ",", ")"]
        for length in range(0, 7):
            for chosen in itertools.product(pieces, repeat=length):
                self.agrees("".join(chosen))

    def test_one_sign_changed(self):
        chance = random.Random(1)
        texts = ["mix(new(),part(x))", "then(pick(x,f()),then(g(a,b,c,d),part(y)))"]
        texts = texts + [some_text(chance, 12)[0] for _ in range(20)]
        for text in texts:
            self.agrees(text)
            for at in range(len(text) + 1):
                self.agrees(text[:at] + text[at + 1:])
                for sign in "(),x1 \n":
                    self.agrees(text[:at] + sign + text[at:])
                    self.agrees(text[:at] + sign + text[at + 1:])

    def test_texts_by_chance(self):
        chance = random.Random(2)
        for _ in range(2000):
            self.agrees(some_text(chance, 20)[0])

    def test_twenty_and_twenty_one_nodes(self):
        self.assertEqual(Expression.MOST_NODES, 20)
        for count in range(1, 21):
            self.assertEqual(len(Expression.read(wide(count))), count)
        for count in range(21, 26):
            self.too_large(wide(count))
        self.right("part(" * 19 + "x" + ")" * 19, [("name", "x")] + [("part", k) for k in range(19)])
        self.too_large("part(" * 20 + "x" + ")" * 20)
        self.too_large("f(" * 20 + "f()" + ")" * 20)

    def test_a_wrong_text_with_many_nodes(self):
        large = wide(30)
        for text in [large + ")", large[:-1], large + "\n", large + ",x", f"g({large},x,pick(x))", f"fun({large})"]:
            self.wrong(text)

    def test_deep_and_long_texts(self):
        for depth in [99, 100, 150, 1500, 20000]:
            self.too_large("part(" * depth + "x" + ")" * depth)
            self.wrong("part(" * depth + "x" + ")" * (depth - 1))
            self.wrong("part(" * depth + "x" + ")" * (depth + 1))
            self.wrong("part(" * depth)
            self.wrong("(" * depth + ")" * depth)
            self.wrong(")" * depth)
        self.wrong("x" * 2000)
        self.wrong("," * 2000)
        self.wrong("f(" + ",".join(["x"] * 990) + ")")
        self.too_large(wide(1000))

    def test_equal_calls(self):
        one, other = Expression.read("f(x,new())"), Expression.read("f(x,new())")
        self.assertEqual(one.nodes, other.nodes)
        self.assertEqual(one.nodes, one.nodes)


class NodesTest(unittest.TestCase):
    def test_a_new_list_each_time(self):
        expression = Expression.read("f(x,part(y))")
        nodes = expression.nodes
        self.assertIs(type(nodes), list)
        nodes.append(("name", "z"))
        nodes[0] = ("name", "q")
        self.assertEqual(len(expression), 4)
        self.assertEqual(expression.nodes[0], ("name", "x"))
        self.assertEqual(expression.text(), "f(x,part(y))")
        self.assertEqual(expression.first(3), 0)

    def test_equal(self):
        one = Expression.read("f(x,new())")
        self.assertIs(one == Expression.read("f(x,new())"), True)
        self.assertIs(one != Expression.read("f(x,new())"), False)
        for other in ["f(x,y)", "f(new(),x)", "g(x,new())", "f(x)", "x", "then(x,new())"]:
            self.assertIs(one == Expression.read(other), False)
            self.assertIs(one != Expression.read(other), True)
        for other in ["f(x,new())", None, 3, True, one.nodes, tuple(one.nodes)]:
            self.assertIs(one == other, False)
            self.assertIs(other == one, False)
            self.assertIs(one != other, True)
        self.assertIs(Expression.read("pick(x,y)") == Expression.read("then(x,y)"), False)
        self.assertIs(Expression.read("x") == Expression.read("x()"), False)


class PartsTest(unittest.TestCase):
    TEXTS = ["x", "new()", "then(f(new()),x)", "then(pick(f(new()),x),part(g(y,new(),x,z)))"]

    def texts(self):
        chance = random.Random(3)
        return self.TEXTS + [some_text(chance, 20)[0] for _ in range(300)]

    def test_example(self):
        e = Expression.read("then(f(new()),x)")
        self.assertEqual([len(e), e.first(1), e.first(2), e.part_text(3, named={1: "n1"})], [4, 0, 2, "then(n1,x)"])

    def test_ranges(self):
        for text in self.texts():
            expression = Expression.read(text)
            for at in range(len(expression)):
                self.assertEqual(sorted(below(expression.nodes, at)), list(range(expression.first(at), at + 1)))

    def test_texts_of_parts(self):
        for text in self.texts():
            expression = Expression.read(text)
            for at in range(len(expression)):
                expected = written(expression.nodes, at, {})
                self.assertEqual(expression.part_text(at), expected)
                self.assertEqual(expression.part_text(at, named=None), expected)
                self.assertEqual(expression.part_text(at, named={}), expected)
            self.assertEqual(expression.part_text(len(expression) - 1), text)

    def test_named_nodes(self):
        chance = random.Random(4)
        for text in self.texts():
            expression = Expression.read(text)
            for _ in range(5):
                named = {at: f"n{at}" for at in range(len(expression)) if chance.random() < 0.3}
                for at in range(len(expression)):
                    expected = written(expression.nodes, at, named)
                    self.assertEqual(expression.part_text(at, named=named), expected)

    def test_named_node_itself(self):
        e = Expression.read("then(f(new()),x)")
        self.assertEqual([e.part_text(at, named={at: "n1"}) for at in range(4)], ["n1"] * 4)

    def test_named_nodes_inside_each_other(self):
        e = Expression.read("f(copy(new()))")
        self.assertEqual(e.part_text(2, named={0: "n1", 1: "n2"}), "f(n2)")
        self.assertEqual(e.part_text(1, named={0: "n1"}), "copy(n1)")
        self.assertEqual(e.part_text(2, named={2: "n3", 0: "n1"}), "n3")
        self.assertEqual(e.part_text(1, named={2: "n3"}), "copy(new())")

    def test_named_is_not_modified(self):
        e = Expression.read("f(copy(new()))")
        named = {1: "n2"}
        self.assertEqual(e.part_text(2, named=named), "f(n2)")
        self.assertEqual(named, {1: "n2"})
        self.assertEqual(e.part_text(2), "f(copy(new()))")
        self.assertEqual(e.text(), "f(copy(new()))")
        self.assertEqual(e.nodes[1], ("call", "copy", (0,)))

    def test_named_is_passed_by_keyword(self):
        with self.assertRaises(TypeError):
            Expression.read("x").part_text(0, {})

    def test_no_such_node(self):
        for text in ["x", "f(x,y)", "part(" * 19 + "x" + ")" * 19]:
            expression = Expression.read(text)
            count = len(expression)
            for at in [-1, -2, -count, count, count + 1, 99, HUGE, -HUGE, True, False, None, "", "0", "1", "x"]:
                with self.subTest(text=text, at=at):
                    with self.assertRaises(NoPlace) as caught:
                        expression.first(at)
                    self.assertTrue(same(caught.exception.what, at))
                    for named in [None, {}, {0: "n1"}]:
                        with self.assertRaises(NoPlace) as caught:
                            expression.part_text(at, named=named)
                        self.assertTrue(same(caught.exception.what, at))


if __name__ == "__main__":
    unittest.main()
