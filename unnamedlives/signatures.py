"""Signatures of functions, and books of signatures."""

from unnamedlives.errors import DuplicateFunction, InvalidSignature, TooLarge, UnknownFunction
from unnamedlives.integers import is_integer_in
from unnamedlives.words import is_name

MOST_PARAMETERS = 4
MOST_GIVEN = 12
# A text must have exactly these; int(..) alone would also read "01", "+1" and digits that are not ASCII.
NUMERALS = ("0", "1", "2", "3", "4")


def are_sources(sources, count):
    """True if these are strictly ascending integers from 1 to count in a list or tuple, otherwise False."""
    if not isinstance(sources, (list, tuple)):
        return False
    least = 1
    for source in sources:
        if not is_integer_in(source, least, count):
            return False
        least = source + 1
    return True


def is_signature(name, count, sources):
    """True if there is a signature with these parts, otherwise False."""
    return is_name(name) and is_integer_in(count, 0, MOST_PARAMETERS) and are_sources(sources, count)


class Signature:
    """All that is known of a function: its name, its number of parameters and its sources."""

    def __init__(self, name, count, *, sources=()):
        if not is_signature(name, count, sources):
            raise InvalidSignature(name)
        self.name = name
        self.count = count
        self.sources = tuple(sources)

    @property
    def fresh(self):
        """True if each call makes a new value, otherwise False."""
        return len(self.sources) == 0

    def text(self):
        """The text of the signature."""
        numbers = [str(source) for source in self.sources]
        return " ".join(["fun", self.name, str(self.count), *numbers])

    @staticmethod
    def read(line):
        """The signature with this text."""
        words = line.split(" ")
        numbers = [int(word) for word in words[2:] if word in NUMERALS]
        if len(words) < 3 or words[0] != "fun" or len(numbers) < len(words) - 2:
            raise InvalidSignature(line)
        if not is_signature(words[1], numbers[0], numbers[1:]):
            raise InvalidSignature(line)
        return Signature(words[1], numbers[0], sources=numbers[1:])

    def __eq__(self, other):
        return (
            isinstance(other, Signature)
            and self.name == other.name
            and self.count == other.count
            and self.sources == other.sources
        )


class Book:
    """The functions that a program may call: new, copy and the given ones."""

    def __init__(self, *signatures):
        if len(signatures) > MOST_GIVEN:
            raise TooLarge("functions")
        every = (Signature("new", 0), Signature("copy", 1), *signatures)
        by_name = {}
        for signature in every:
            if signature.name in by_name:
                raise DuplicateFunction(signature.name)
            by_name[signature.name] = signature
        self._given = signatures
        self._every = every
        self._by_name = by_name

    def __len__(self):
        return len(self._every)

    def __contains__(self, name):
        return isinstance(name, str) and name in self._by_name

    def __getitem__(self, name):
        if name not in self:
            raise UnknownFunction(name)
        return self._by_name[name]

    def __iter__(self):
        return iter(self._every)

    def __or__(self, other):
        for signature in other._given:
            if signature.name in self and self[signature.name] != signature:
                raise DuplicateFunction(signature.name)
        added = [signature for signature in other._given if signature.name not in self]
        given = [*self._given, *added]
        return Book(*given)
