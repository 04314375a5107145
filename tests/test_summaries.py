import random
import unittest

from kinds import HUGE, LOOSE_KEYS, same
from making import all_choices, some_book, some_expression
from unnamedlives.errors import NoWay, UnknownFunction
from unnamedlives.evaluating import is_choice, outcome
from unnamedlives.expressions import Expression
from unnamedlives.signatures import Book, Signature
from unnamedlives.summaries import choice_for_look, choice_for_result, looked_at, results

F2 = Book(Signature("f", 2, sources=(1, 2)))


def in_order(things):
    """Names ascending, then numbers ascending."""
    return sorted(thing for thing in things if isinstance(thing, str)) + sorted(
        thing for thing in things if not isinstance(thing, str)
    )


def looks_of(expression, book, choice):
    return {what for kind, what in outcome(expression, book, choice)[0] if kind == "look"}


def some_cases(number, count, most):
    chance = random.Random(number)
    for _ in range(count):
        book = some_book(chance)
        text, _ = some_expression(chance, book, ["x", "y", "a1"], chance.randint(1, most))
        yield Expression.read(text), book


class ResultsTest(unittest.TestCase):
    def test_example(self):
        e = Expression.read("f(pick(x,new()),y)")
        self.assertEqual(results(e, F2), [["x"], [1], ["x", 1], ["y"], ["x", "y", 1]])

    def test_each_kind_of_node(self):
        book = Book(Signature("f", 3, sources=(1, 3)), Signature("g", 2))
        for text, expected in [
            ("x", ["x"]),
            ("part(x)", ["x"]),
            ("part(new())", [0]),
            ("pick(y,x)", ["x", "y"]),
            ("pick(x,x)", ["x"]),
            ("then(x,y)", ["y"]),
            ("then(new(),new())", [1]),
            ("new()", [0]),
            ("copy(x)", [1]),
            ("g(x,y)", [2]),
            ("f(z,y,x)", ["x", "z"]),
            ("f(x,y,x)", ["x"]),
            ("f(new(),new(),new())", [0, 2]),
        ]:
            e = Expression.read(text)
            self.assertEqual(results(e, book)[-1], expected, text)
            self.assertEqual(len(results(e, book)), len(e))

    def test_names_come_before_numbers_and_numbers_are_ordered_as_numbers(self):
        e = Expression.read("pick(then(then(then(x,y),x),new()),pick(z,pick(b,pick(new(),pick(new(),z1)))))")
        found = results(e, F2)[-1]
        self.assertEqual(found, ["b", "z", "z1", 5, 9, 10])
        self.assertEqual([e.nodes[at] for at in found if not isinstance(at, str)], [("call", "new", ())] * 3)

    def test_results_that_come_twice(self):
        self.assertEqual(results(Expression.read("f(pick(y,x),pick(x,y))"), F2)[-1], ["x", "y"])
        e = Expression.read("pick(f(x,x),pick(x,x))")
        self.assertEqual(results(e, F2), [["x"]] * 7)

    def test_by_all_choices(self):
        for e, book in some_cases(1, 300, 9):
            given = {outcome(e, book, choice)[1] for choice in all_choices(e, book)}
            self.assertEqual(results(e, book)[-1], in_order(given))

    def test_the_results_of_each_node_are_those_of_its_text(self):
        for e, book in some_cases(2, 300, 20):
            for at, found in enumerate(results(e, book)):
                inner = results(Expression.read(e.part_text(at)), book)[-1]
                first = e.first(at)
                self.assertEqual(found, [thing if isinstance(thing, str) else thing + first for thing in inner])

    def test_new_lists_also_inside(self):
        e = Expression.read("f(part(x),then(y,x))")
        expected = results(e, F2)
        found = results(e, F2)
        for at, things in enumerate(found):
            self.assertIs(type(things), list)
            things.append("q")
            for other in found[:at] + found[at + 1:]:
                self.assertIsNot(things, other)
        found.clear()
        self.assertEqual(results(e, F2), expected)


class LookedAtTest(unittest.TestCase):
    def test_examples(self):
        book = Book(Signature("f", 2, sources=(1, 2)), Signature("g", 1), Signature("h", 2, sources=(2,)))
        for text, expected in [
            ("f(pick(x,new()),y)", ["x", "y"]),
            ("x", []),
            ("part(x)", []),
            ("pick(x,y)", []),
            ("then(x,y)", []),
            ("g(new())", []),
            ("g(f(y,x))", ["x", "y"]),
            ("g(h(y,x))", ["x", "y"]),
            ("g(then(x,y))", ["y"]),
            ("then(g(x),y)", ["x"]),
            ("g(g(x))", ["x"]),
            ("pick(g(z),pick(g(a),x))", ["a", "z"]),
            ("f(f(x,x),f(x,x))", ["x"]),
        ]:
            self.assertEqual(looked_at(Expression.read(text), book), expected, text)

    def test_by_all_choices(self):
        for e, book in some_cases(3, 300, 9):
            seen = set()
            for choice in all_choices(e, book):
                seen |= looks_of(e, book, choice)
            self.assertEqual(looked_at(e, book), sorted(thing for thing in seen if isinstance(thing, str)))

    def test_a_new_list_each_time(self):
        e = Expression.read("f(x,y)")
        looked_at(e, F2).append("z")
        self.assertEqual(looked_at(e, F2), ["x", "y"])


class ChoiceForResultTest(unittest.TestCase):
    def refused(self, expression, book, wanted):
        with self.subTest(wanted=wanted):
            with self.assertRaises(NoWay) as caught:
                choice_for_result(expression, book, wanted)
            self.assertTrue(same(caught.exception.what, wanted))

    def test_example(self):
        e = Expression.read("f(pick(x,new()),y)")
        self.assertEqual(choice_for_result(e, F2, "y")[4], 2)

    def test_by_chance(self):
        for e, book in some_cases(4, 400, 20):
            for wanted in results(e, book)[-1]:
                choice = choice_for_result(e, book, wanted)
                self.assertIs(type(choice), list)
                self.assertTrue(is_choice(e, book, choice))
                self.assertTrue(same(outcome(e, book, choice)[1], wanted))

    def test_no_way(self):
        for text in ["f(pick(x,new()),y)", "pick(new(),pick(new(),new()))", "then(x,new())", "x", "copy(f(x,y))"]:
            e = Expression.read(text)
            possible = results(e, F2)[-1]
            for wanted in LOOSE_KEYS + list(range(22)) + ["y", "z", "new", "f", "X"]:
                if not any(same(wanted, thing) for thing in possible):
                    self.refused(e, F2, wanted)

    def test_true_is_not_one(self):
        e = Expression.read("pick(x,new())")
        self.assertEqual(outcome(e, F2, choice_for_result(e, F2, 1))[1], 1)
        self.refused(e, F2, True)
        self.refused(Expression.read("new()"), F2, False)

    def test_results_of_other_nodes(self):
        e = Expression.read("then(f(x,new()),part(y))")
        for wanted in ["x", 1, 0, 2]:
            self.refused(e, F2, wanted)

    def test_a_new_list_each_time(self):
        e = Expression.read("f(x,y)")
        expected = choice_for_result(e, F2, "x")
        choice_for_result(e, F2, "x").append(0)
        self.assertEqual(choice_for_result(e, F2, "x"), expected)


class ChoiceForLookTest(unittest.TestCase):
    def refused(self, expression, book, name):
        with self.subTest(name=name):
            with self.assertRaises(NoWay) as caught:
                choice_for_look(expression, book, name)
            self.assertTrue(same(caught.exception.what, name))

    def test_by_chance(self):
        for e, book in some_cases(5, 400, 20):
            for name in looked_at(e, book):
                choice = choice_for_look(e, book, name)
                self.assertIs(type(choice), list)
                self.assertTrue(is_choice(e, book, choice))
                self.assertIn(name, looks_of(e, book, choice))

    def test_the_call_must_be_evaluated_and_the_argument_must_give_the_name(self):
        e = Expression.read("pick(new(),pick(x,copy(pick(x,f(y,pick(x,z))))))")
        for name in ["x", "y", "z"]:
            self.assertIn(name, looks_of(e, F2, choice_for_look(e, F2, name)))
        e = Expression.read("pick(pick(copy(x),copy(y)),pick(copy(z),copy(w)))")
        for name in ["x", "y", "z", "w"]:
            self.assertEqual(looks_of(e, F2, choice_for_look(e, F2, name)), {name})

    def test_a_call_in_an_argument_that_a_call_does_not_give(self):
        book = Book(Signature("h", 2, sources=(2,)))
        e = Expression.read("h(copy(x),pick(y,z))")
        for name in ["x", "y", "z"]:
            self.assertIn(name, looks_of(e, book, choice_for_look(e, book, name)))

    def test_no_way(self):
        for text in ["f(pick(x,new()),y)", "x", "part(copy(new()))", "then(copy(x),y)", "pick(x,new())"]:
            e = Expression.read(text)
            for name in LOOSE_KEYS + list(range(22)) + ["y", "z", "new", "f", "X"]:
                if name not in looked_at(e, F2):
                    self.refused(e, F2, name)

    def test_a_new_list_each_time(self):
        e = Expression.read("f(x,y)")
        expected = choice_for_look(e, F2, "x")
        choice_for_look(e, F2, "x").append(0)
        self.assertEqual(choice_for_look(e, F2, "x"), expected)


class UnknownFunctionTest(unittest.TestCase):
    def test_the_call_with_the_lowest_node(self):
        for text, name in [("g()", "g"), ("f(x,g())", "g"), ("g(h())", "h"), ("pick(x,then(k(y),a()))", "k")]:
            e = Expression.read(text)
            for call in [
                lambda: results(e, F2), lambda: looked_at(e, F2), lambda: choice_for_result(e, F2, "x"),
                lambda: choice_for_result(e, F2, None), lambda: choice_for_look(e, F2, "x"),
                lambda: choice_for_look(e, F2, 99), lambda: choice_for_result(e, F2, HUGE),
            ]:
                with self.subTest(text=text):
                    with self.assertRaises(UnknownFunction) as caught:
                        call()
                    self.assertEqual(caught.exception.what, name)


if __name__ == "__main__":
    unittest.main()
