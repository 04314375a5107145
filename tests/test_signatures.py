import itertools
import unittest

from kinds import HUGE, NO_INTEGERS, NO_LISTS, NO_STRINGS, same
from unnamedlives.errors import InvalidSignature
from unnamedlives.signatures import Signature
from unnamedlives.words import RESERVED


def all_sources(count):
    """All that may be the sources of a function with so many parameters."""
    numbers = range(1, count + 1)
    return [chosen for size in range(count + 1) for chosen in itertools.combinations(numbers, size)]


class MakeTest(unittest.TestCase):
    def refused(self, name, count, sources):
        with self.subTest(name=repr(type(name)), count=repr(type(count)), sources=repr(type(sources))):
            with self.assertRaises(InvalidSignature) as caught:
                Signature(name, count, sources=sources)
            self.assertTrue(same(caught.exception.what, name))

    def test_example(self):
        mix = Signature("mix", 2, sources=[1, 2])
        self.assertEqual([mix.text(), mix.sources, mix.fresh], ["fun mix 2 1 2", (1, 2), False])

    def test_attributes(self):
        for count in range(5):
            for sources in all_sources(count):
                for given in [sources, list(sources)]:
                    signature = Signature("f", count, sources=given)
                    self.assertEqual((signature.name, signature.count, signature.sources), ("f", count, sources))
                    self.assertIs(type(signature.sources), tuple)
                    self.assertIs(signature.fresh, not sources)

    def test_without_sources_it_is_fresh(self):
        join = Signature("join", 2)
        self.assertEqual((join.sources, join.fresh), ((), True))
        self.assertIs(Signature("join", 2, sources=[]).fresh, True)

    def test_sources_are_passed_by_keyword(self):
        with self.assertRaises(TypeError):
            Signature("f", 1, (1,))
        self.assertEqual(Signature(sources=(1,), count=1, name="f").text(), "fun f 1 1")

    def test_names(self):
        for name in ["a", "abcdefgh", "new", "copy", "f1", "funs"]:
            self.assertEqual(Signature(name, 0).name, name)
        for name in list(RESERVED) + ["", "abcdefghi", "1f", "F", "f ", "f\n", " f", "f_", "f()"] + NO_STRINGS:
            self.refused(name, 0, ())

    def test_counts(self):
        for count in range(5):
            self.assertEqual(Signature("f", count).count, count)
        for count in [-1, -HUGE, 5, 6, HUGE] + NO_INTEGERS:
            self.refused("f", count, ())

    def test_sources_of_every_count(self):
        for count in range(5):
            for length in range(4):
                for sources in itertools.product(range(-1, 6), repeat=length):
                    if sources in all_sources(count):
                        self.assertEqual(Signature("f", count, sources=list(sources)).sources, sources)
                    else:
                        self.refused("f", count, list(sources))
                        self.refused("f", count, sources)
        self.refused("f", 4, [1, 2, 3, 4, 5])
        self.refused("f", 4, [1, 2, 3, 4, 4])
        self.refused("f", 4, [HUGE])
        self.refused("f", 4, [1, HUGE])
        self.refused("f", 4, [-HUGE, 1])

    def test_sources_of_every_kind(self):
        for sources in NO_LISTS:
            self.refused("f", 4, sources)
        for thing in NO_INTEGERS:
            self.refused("f", 4, [thing])
            self.refused("f", 4, (1, thing))
            self.refused("f", 4, [thing, 2])

    def test_true_is_not_one(self):
        self.refused("f", True, ())
        self.refused("f", False, ())
        self.refused("f", 1, [True])
        self.refused("f", 2, (True, 2))

    def test_several_faults_at_once(self):
        self.refused(None, None, None)
        self.refused("fun", 5, [9])
        self.refused(["f"], 1, [1])

    def test_arguments_are_not_modified(self):
        sources = [1, 3]
        signature = Signature("f", 3, sources=sources)
        self.assertEqual(sources, [1, 3])
        sources.append(4)
        self.assertEqual(signature.sources, (1, 3))
        name = ["f", ["g"]]
        with self.assertRaises(InvalidSignature) as caught:
            Signature(name, 0)
        caught.exception.what[1].append("h")
        self.assertEqual(name, ["f", ["g"]])


class TextTest(unittest.TestCase):
    def refused(self, line):
        with self.subTest(line=line):
            with self.assertRaises(InvalidSignature) as caught:
                Signature.read(line)
            self.assertEqual(caught.exception.what, line)

    def test_texts(self):
        self.assertEqual(Signature("mix", 2, sources=(1, 2)).text(), "fun mix 2 1 2")
        self.assertEqual(Signature("join", 2).text(), "fun join 2")
        self.assertEqual(Signature("new", 0).text(), "fun new 0")
        self.assertEqual(Signature("abcdefgh", 4, sources=[1, 2, 3, 4]).text(), "fun abcdefgh 4 1 2 3 4")

    def test_example(self):
        self.refused("fun mix 2 2 1")

    def test_every_text_is_read(self):
        for name in ["f", "mix", "abcdefgh", "new", "copy"]:
            for count in range(5):
                for sources in all_sources(count):
                    line = " ".join(["fun", name, str(count)] + [str(source) for source in sources])
                    signature = Signature.read(line)
                    self.assertIsInstance(signature, Signature)
                    self.assertEqual((signature.name, signature.count, signature.sources), (name, count, sources))
                    self.assertIs(type(signature.count), int)
                    self.assertEqual(signature.text(), line)

    def test_reading_is_equal_to_making(self):
        self.assertEqual(Signature.read("fun pair 3 1 3"), Signature("pair", 3, sources=[1, 3]))

    def test_wrong_parts(self):
        for line in [
            "", "fun", "fun ", "fun f", "fun f ", "f 1", "f 1 1", "fun 1", "fun 1 1", "fun 1 f", "fun fun 1",
            "fun part 1", "fun F 1", "fun abcdefghi 1", "fun f 5", "fun f -1", "fun f 10", "fun f x", "fun f 1 2",
            "fun f 1 0", "fun f 0 1", "fun f 0 0", "fun f 2 1 1", "fun f 2 2 1", "fun f 2 1 2 3", "fun f 4 1 2 3 4 5",
            "fun f 4 1 2 3 4 4", "fun f 1 x", "fun f 2 1 x", "fun f 2 x 1", "fun f 1.0", "fun f True", "fun f()",
            "out f 1", "Fun f 1", "FUN f 1", "fun, f, 1", "fun f " + "9" * 40, "fun f 1 " + "1" * 40,
            "fun f " + "9" * 5000, "fun f 4" + " 1" * 1000, "fun f g 1", "none",
        ]:
            self.refused(line)

    def test_other_spellings_of_numbers(self):
        for number in ["01", "+1", "1_", "0x1", "1.", "1e0", "\u0661", "\uff11", "\u00b9", "one", "1\n", "\n1", "1\t"]:
            self.refused(f"fun f {number}")
            self.refused(f"fun f 1 {number}")
            self.refused(f"fun f 2 {number} 2")

    def test_a_sign_too_many_or_too_few(self):
        for right in ["fun f 2 1 2", "fun mix 2", "fun new 0"]:
            self.refused(right + "\n")
            self.refused(right + " ")
            self.refused(" " + right)
            self.refused("\n" + right)
            for at in range(len(right) + 1):
                for sign in " \n\t,-_":
                    self.refused(right[:at] + sign + right[at:])
                if right[at:at + 1] == " ":
                    self.refused(right[:at] + right[at + 1:])
                    for sign in "\n\t\r,-":
                        self.refused(right[:at] + sign + right[at + 1:])


class EqualTest(unittest.TestCase):
    def test_equal(self):
        self.assertIs(Signature("f", 2, sources=[1]) == Signature("f", 2, sources=(1,)), True)
        self.assertIs(Signature("f", 2, sources=[1]) != Signature("f", 2, sources=(1,)), False)

    def test_different(self):
        one = Signature("f", 2, sources=[1])
        for other in [
            Signature("g", 2, sources=[1]), Signature("f", 3, sources=[1]), Signature("f", 2, sources=[2]),
            Signature("f", 2, sources=[1, 2]), Signature("f", 2), "fun f 2 1", None, 1, ("f", 2, (1,)), True,
        ]:
            self.assertIs(one == other, False)
            self.assertIs(other == one, False)
            self.assertIs(one != other, True)


if __name__ == "__main__":
    unittest.main()
