import unittest

from kinds import LOOSE_KEYS, same
from unnamedlives.errors import DuplicateFunction, TooLarge, UnknownFunction
from unnamedlives.signatures import Book, Signature


def fresh(*names):
    return [Signature(name, 0) for name in names]


def numbered(first, last):
    return [Signature(f"f{number}", 1, sources=[1]) for number in range(first, last + 1)]


def texts(book):
    return [signature.text() for signature in book]


class MakeTest(unittest.TestCase):
    def refused(self, error, what, *signatures):
        with self.assertRaises(error) as caught:
            Book(*signatures)
        self.assertEqual(caught.exception.what, what)

    def test_example(self):
        book = Book(Signature("join", 2))
        self.assertEqual([len(book), "copy" in book, "mix" in book, book["join"].fresh], [3, True, False, True])

    def test_every_book_has_new_and_copy(self):
        book = Book()
        self.assertEqual(len(book), 2)
        self.assertEqual(texts(book), ["fun new 0", "fun copy 1"])
        self.assertEqual((book["new"].count, book["new"].fresh), (0, True))
        self.assertEqual((book["copy"].count, book["copy"].fresh), (1, True))

    def test_the_given_ones_stand_in_order(self):
        book = Book(*fresh("z", "a", "m"))
        self.assertEqual(texts(book), ["fun new 0", "fun copy 1", "fun z 0", "fun a 0", "fun m 0"])
        self.assertEqual(texts(book), texts(book))
        self.assertEqual(len(book), 5)

    def test_twelve_and_thirteen(self):
        self.assertEqual(len(Book(*numbered(1, 12))), 14)
        self.refused(TooLarge, "functions", *numbered(1, 13))
        self.refused(TooLarge, "functions", *numbered(1, 40))

    def test_duplicates(self):
        self.refused(DuplicateFunction, "new", Signature("new", 0))
        self.refused(DuplicateFunction, "copy", Signature("copy", 1))
        self.refused(DuplicateFunction, "new", Signature("new", 2, sources=[1]))
        self.refused(DuplicateFunction, "a", *fresh("a", "a"))
        self.refused(DuplicateFunction, "a", Signature("a", 0), Signature("a", 1))
        self.refused(DuplicateFunction, "b", *fresh("a", "b", "c", "b", "a"))
        self.refused(DuplicateFunction, "copy", *fresh("a", "copy", "new", "a"))
        self.refused(DuplicateFunction, "f12", *numbered(1, 12)[1:], Signature("f12", 0))

    def test_too_large_comes_before_duplicates(self):
        self.refused(TooLarge, "functions", *fresh("new", *["a"] * 12))
        self.refused(DuplicateFunction, "new", *fresh("new", *["a"] * 11))


class LookUpTest(unittest.TestCase):
    def test_contains(self):
        book = Book(*fresh("a", "b"))
        for name in ["new", "copy", "a", "b"]:
            self.assertIs(name in book, True)
        for name in ["c", "A", "a ", "a\n"] + LOOSE_KEYS:
            self.assertIs(name in book, False)

    def test_items(self):
        given = numbered(1, 3)
        book = Book(*given)
        for signature in given:
            self.assertEqual(book[signature.name], signature)

    def test_unknown_functions(self):
        book = Book(*fresh("a", "b"))
        for name in ["c", "A", "a ", "a\n"] + LOOSE_KEYS:
            with self.subTest(name=name):
                with self.assertRaises(UnknownFunction) as caught:
                    book[name]
                self.assertTrue(same(caught.exception.what, name))


class UnionTest(unittest.TestCase):
    def refused(self, error, what, one, other):
        with self.assertRaises(error) as caught:
            one | other
        self.assertEqual(caught.exception.what, what)

    def test_order(self):
        one = Book(*fresh("c", "a"))
        other = Book(*fresh("d", "a", "b"))
        self.assertEqual(texts(one | other)[2:], ["fun c 0", "fun a 0", "fun d 0", "fun b 0"])
        self.assertEqual(texts(other | one)[2:], ["fun d 0", "fun a 0", "fun b 0", "fun c 0"])
        self.assertIsInstance(one | other, Book)

    def test_neither_book_changes(self):
        one = Book(*fresh("a"))
        other = Book(*fresh("b"))
        both = one | other
        self.assertEqual([len(one), len(other), len(both)], [3, 3, 4])
        self.assertEqual(("b" in one, "a" in other), (False, False))
        self.assertEqual(texts(one | other), texts(both))

    def test_empty_books(self):
        book = Book(*fresh("a", "b"))
        self.assertEqual(texts(book | Book()), texts(book))
        self.assertEqual(texts(Book() | book), texts(book))
        self.assertEqual(texts(Book() | Book()), ["fun new 0", "fun copy 1"])
        self.assertEqual(texts(book | book), texts(book))

    def test_the_first_different_signature_of_the_other_book(self):
        one = Book(Signature("a", 1), Signature("b", 1), Signature("c", 1))
        other = Book(Signature("c", 1), Signature("d", 0), Signature("b", 1, sources=[1]), Signature("a", 2))
        self.refused(DuplicateFunction, "b", one, other)
        self.refused(DuplicateFunction, "a", other, one)
        self.assertEqual(texts(one | Book(Signature("a", 1)))[2:], ["fun a 1", "fun b 1", "fun c 1"])

    def test_twelve_and_thirteen(self):
        twelve = Book(*numbered(1, 7)) | Book(*numbered(3, 12))
        self.assertEqual(texts(twelve), texts(Book(*numbered(1, 12))))
        self.assertEqual(texts(twelve | twelve), texts(twelve))
        self.refused(TooLarge, "functions", Book(*numbered(1, 7)), Book(*numbered(8, 13)))
        self.refused(TooLarge, "functions", twelve, Book(*fresh("a")))

    def test_a_different_signature_comes_before_too_large(self):
        other = Book(*numbered(13, 20), Signature("f1", 0))
        self.refused(DuplicateFunction, "f1", Book(*numbered(1, 12)), other)


if __name__ == "__main__":
    unittest.main()
