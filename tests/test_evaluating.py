import random
import unittest

from kinds import HUGE, NO_INTEGERS, NO_LISTS, same
from making import all_choices, allowed_at, some_book, some_expression
from naive import visit
from unnamedlives.errors import BadChoice, UnknownFunction
from unnamedlives.evaluating import evaluated, is_choice, options, outcome
from unnamedlives.expressions import Expression
from unnamedlives.signatures import Book, Signature

F2 = Book(Signature("f", 2, sources=(1, 2)))


def some_cases(number, count, most):
    chance = random.Random(number)
    for _ in range(count):
        book = some_book(chance)
        text, _ = some_expression(chance, book, ["x", "y"], chance.randint(1, most))
        yield Expression.read(text), book


class OptionsTest(unittest.TestCase):
    def test_each_kind_of_node(self):
        book = Book(Signature("f", 3, sources=(1, 3)), Signature("g", 4, sources=(4,)), Signature("h", 2))
        e = Expression.read("then(f(part(x),pick(x,y),new()),g(h(x,x),copy(x),x,y))")
        expected = {"pick": (1, 2), "f": (1, 3), "g": (4,)}
        for node, numbers in zip(e.nodes, options(e, book)):
            self.assertEqual(numbers, expected.get(node[1] if node[0] == "call" else node[0], (0,)))
        self.assertEqual(len(options(e, book)), len(e))

    def test_kinds_of_values(self):
        e = Expression.read("f(pick(x,new()),y)")
        self.assertEqual(options(e, F2), [(0,), (0,), (1, 2), (0,), (1, 2)])
        self.assertIs(type(options(e, F2)), list)
        for numbers in options(e, F2):
            self.assertIs(type(numbers), tuple)

    def test_a_new_list_each_time(self):
        e = Expression.read("f(x,y)")
        options(e, F2).append((7,))
        self.assertEqual(options(e, F2), [(0,), (0,), (1, 2)])

    def test_by_chance(self):
        for e, book in some_cases(1, 300, 12):
            self.assertEqual(options(e, book), [allowed_at(node, book) for node in e.nodes])


class IsChoiceTest(unittest.TestCase):
    def setUp(self):
        self.expression = Expression.read("f(pick(x,new()),part(y))")
        self.right = [0, 0, 1, 0, 0, 2]

    def holds(self, choice, expected):
        with self.subTest(choice=str(choice)):
            self.assertIs(is_choice(self.expression, F2, choice), expected)

    def test_lists_and_tuples(self):
        for choice in all_choices(self.expression, F2):
            self.holds(choice, True)
            self.holds(list(choice), True)

    def test_a_number_too_many_or_too_few(self):
        self.holds([], False)
        self.holds((), False)
        self.holds(self.right + [0], False)
        self.holds([0] + self.right, False)
        self.holds(self.right[:-1], False)
        self.holds(self.right[1:], False)
        self.holds(self.right * 2, False)

    def test_each_wrong_number_at_each_node(self):
        for at, numbers in enumerate(options(self.expression, F2)):
            for number in [-2, -1, 0, 1, 2, 3, 4, 5, HUGE, -HUGE]:
                choice = list(self.right)
                choice[at] = number
                self.holds(choice, number in numbers)
                self.holds(tuple(choice), number in numbers)

    def test_no_integers(self):
        for at in range(6):
            for thing in NO_INTEGERS:
                choice = list(self.right)
                choice[at] = thing
                self.holds(choice, False)
                self.holds(tuple(choice), False)

    def test_no_lists(self):
        for choice in NO_LISTS:
            self.holds(choice, False)
        self.holds("000000", False)
        self.holds({k: 0 for k in range(6)}, False)
        self.holds(range(6), False)

    def test_a_choice_has_numbers_for_nodes_that_are_not_evaluated(self):
        e = Expression.read("pick(x,f(x,y))")
        for number, expected in [(0, False), (1, True), (2, True), (3, False)]:
            self.assertIs(is_choice(e, F2, [0, 0, 0, number, 1]), expected)

    def test_sources_only(self):
        book = Book(Signature("f", 3, sources=(1, 3)))
        e = Expression.read("f(x,x,x)")
        self.assertEqual([is_choice(e, book, [0, 0, 0, k]) for k in range(5)], [False, True, False, True, False])

    def test_the_choice_is_not_modified(self):
        choice = list(self.right)
        is_choice(self.expression, F2, choice)
        outcome(self.expression, F2, choice)
        evaluated(self.expression, choice)
        self.assertEqual(choice, [0, 0, 1, 0, 0, 2])


class EvaluatedTest(unittest.TestCase):
    def test_examples(self):
        e = Expression.read("then(pick(f(x,y),part(new())),pick(x,y))")
        self.assertEqual(evaluated(e, [0, 0, 1, 0, 0, 1, 0, 0, 1, 0]), [0, 1, 2, 5, 6, 8, 9])
        self.assertEqual(evaluated(e, [0, 0, 1, 0, 0, 2, 0, 0, 2, 0]), [3, 4, 5, 7, 8, 9])
        self.assertEqual(evaluated(e, (0, 0, 2, 0, 0, 2, 0, 0, 1, 0)), [3, 4, 5, 6, 8, 9])
        self.assertEqual(evaluated(Expression.read("x"), [0]), [0])

    def test_picks_inside_picks(self):
        e = Expression.read("pick(pick(x,y),pick(z,new()))")
        self.assertEqual(evaluated(e, [0, 0, 1, 0, 0, 2, 1]), [0, 2, 6])
        self.assertEqual(evaluated(e, [0, 0, 1, 0, 0, 2, 2]), [4, 5, 6])

    def test_a_new_list_each_time(self):
        e = Expression.read("f(x,y)")
        evaluated(e, [0, 0, 1]).clear()
        self.assertEqual(evaluated(e, [0, 0, 1]), [0, 1, 2])

    def test_by_chance(self):
        for e, book in some_cases(2, 300, 9):
            for choice in all_choices(e, book):
                steps = []
                visit(e.nodes, book, choice, len(e) - 1, steps, [])
                self.assertEqual(evaluated(e, choice), steps)
                self.assertEqual(evaluated(e, list(choice)), steps)


class OutcomeTest(unittest.TestCase):
    def refused(self, expression, book, choice):
        with self.subTest(choice=str(choice)):
            with self.assertRaises(BadChoice) as caught:
                outcome(expression, book, choice)
            self.assertTrue(same(caught.exception.what, choice))

    def test_example(self):
        e = Expression.read("f(pick(x,new()),y)")
        self.assertEqual(outcome(e, F2, [0, 0, 2, 0, 1]), ([("birth", 1), ("look", 1), ("look", "y")], 1))
        self.assertEqual(outcome(e, F2, [0, 0, 1, 0, 2]), ([("look", "x"), ("look", "y")], "y"))

    def test_each_kind_of_node(self):
        book = Book(Signature("f", 2, sources=(1, 2)), Signature("g", 2))
        for text, choice, expected in [
            ("x", [0], ([], "x")),
            ("part(x)", [0, 0], ([], "x")),
            ("pick(x,y)", [0, 0, 1], ([], "x")),
            ("pick(x,y)", [0, 0, 2], ([], "y")),
            ("then(x,y)", [0, 0, 0], ([], "y")),
            ("new()", [0], ([("birth", 0)], 0)),
            ("part(new())", [0, 0], ([("birth", 0)], 0)),
            ("then(new(),x)", [0, 0, 0], ([("birth", 0)], "x")),
            ("pick(new(),x)", [0, 0, 2], ([], "x")),
            ("copy(x)", [0, 0], ([("look", "x"), ("birth", 1)], 1)),
            ("g(x,y)", [0, 0, 0], ([("look", "x"), ("look", "y"), ("birth", 2)], 2)),
            ("f(x,x)", [0, 0, 2], ([("look", "x"), ("look", "x")], "x")),
            ("f(f(x,y),z)", [0, 0, 2, 0, 1], ([("look", "x"), ("look", "y"), ("look", "y"), ("look", "z")], "y")),
        ]:
            with self.subTest(text=text, choice=choice):
                self.assertEqual(outcome(Expression.read(text), book, choice), expected)

    def test_kinds_of_values(self):
        given = outcome(Expression.read("copy(x)"), F2, (0, 0))
        self.assertEqual([type(given), type(given[0]), type(given[0][0])], [tuple, list, tuple])

    def test_a_new_list_each_time(self):
        e = Expression.read("copy(x)")
        outcome(e, F2, [0, 0])[0].clear()
        self.assertEqual(outcome(e, F2, [0, 0]), ([("look", "x"), ("birth", 1)], 1))

    def test_by_chance(self):
        for e, book in some_cases(3, 300, 9):
            for choice in all_choices(e, book):
                events = []
                result = visit(e.nodes, book, choice, len(e) - 1, [], events)
                self.assertEqual(outcome(e, book, choice), (events, result))
                self.assertEqual(outcome(e, book, list(choice)), (events, result))

    def test_no_choices(self):
        e = Expression.read("f(pick(x,new()),y)")
        for choice in NO_LISTS:
            self.refused(e, F2, choice)
        for choice in [[], (), [0, 0, 1, 0], [0, 0, 1, 0, 1, 0], (0, 0, 1, 0, 0), [0, 0, 0, 0, 1], [0, 0, True, 0, 1]]:
            self.refused(e, F2, choice)
        for at in range(5):
            for thing in NO_INTEGERS + [3, -1, HUGE, -HUGE]:
                choice = [0, 0, 1, 0, 1]
                choice[at] = thing
                self.refused(e, F2, choice)
                self.refused(e, F2, tuple(choice))

    def test_a_choice_that_contains_itself(self):
        choice = [0, 0, 1, 0]
        choice.append(choice)
        e = Expression.read("f(pick(x,new()),y)")
        self.assertIs(is_choice(e, F2, choice), False)
        with self.assertRaises(BadChoice):
            outcome(e, F2, choice)


class UnknownFunctionTest(unittest.TestCase):
    def test_the_call_with_the_lowest_node(self):
        book = Book(Signature("f", 1, sources=(1,)))
        for text, name in [("g()", "g"), ("f(g())", "g"), ("g(h())", "h"), ("then(k(new()),g(h()))", "k"),
                           ("pick(f(x),pick(x,mix(x)))", "mix"), ("g(f(x))", "g"), ("then(z(),a())", "z")]:
            e = Expression.read(text)
            zeros = [0] * len(e)
            for call in [
                lambda: options(e, book), lambda: is_choice(e, book, zeros), lambda: is_choice(e, book, None),
                lambda: outcome(e, book, zeros), lambda: outcome(e, book, []), lambda: outcome(e, book, 1),
            ]:
                with self.subTest(text=text):
                    with self.assertRaises(UnknownFunction) as caught:
                        call()
                    self.assertEqual(caught.exception.what, name)


if __name__ == "__main__":
    unittest.main()
