"""Arguments of many kinds, for the tests of what is refused."""


class Odd:
    """A thing that answers no question."""

    def __eq__(self, other):
        raise RuntimeError("compared")

    def __lt__(self, other):
        raise RuntimeError("compared")

    def __len__(self):
        raise RuntimeError("measured")

    def __bool__(self):
        raise RuntimeError("tested")


HUGE = 10 ** 40 - 1
NO_INTEGERS = [
    True, False, None, "", "0", "1", "x", b"1", 0.0, 1.0, 2.0, float("nan"), 1j,
    [], [1], (), (1,), {}, {1: 1}, set(), {1}, frozenset(), range(3), object(), int, len, Odd(),
]
NO_STRINGS = [
    True, False, None, 0, 1, -1, HUGE, b"a", b"new", 1.5, float("nan"), ["a"], ("a",), [], (), {}, {"a": 1},
    set(), {"a"}, frozenset("a"), range(1), object(), str, len, Odd(),
]
NO_LISTS = [
    True, False, None, 0, 1, HUGE, "", "1", "12", b"", b"\x01", 1.5, {}, {1: 1}, set(), {1}, frozenset(),
    range(0), range(1, 2), object(), list, len, Odd(),
]
# Every kind of thing for which the interface states an error: integers, strings, True, False and None.
LOOSE_KEYS = [True, False, None, -1, 0, 1, 2, HUGE, -HUGE, "", "0", "1", "-1", "x", "mix\n", " new", "part"]


def same(one, other):
    """True if both are the same thing, or equal things of the same kind."""
    return one is other or (type(one) is type(other) and one == other)
