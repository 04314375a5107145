"""Effects: what a piece of a program looks at, and to what its outs may refer afterwards."""

from unnamedlives.errors import OtherOuts, UnknownName


def ascending(texts):
    """The tuple of the texts, ascending, without duplicates."""
    return tuple(sorted(set(texts)))


def normal(texts, faulty):
    """What an out gives, in the normal form, if these texts are among it and the effect is faulty or not."""
    return ("dead",) if faulty or "dead" in texts else ascending(texts)


def added(one, other, out):
    """The list of what an out gives in one effect and not in the other, empty if it gives `dead` in the other."""
    allowed = other.gives(out)
    return [text for text in one.gives(out) if text not in allowed and "dead" not in allowed]


class Effect:
    """The effect of a piece with these outs, in the normal form."""

    def __init__(self, outs, *, looks=(), gives=None, faulty=False):
        self.outs = tuple(outs)
        self.faulty = faulty
        given = {} if gives is None else gives
        for name in list(looks) + list(given):
            if name not in self.outs:
                raise UnknownName(name)
        self._looks = () if faulty else ascending(looks)
        self._gives = {out: normal(given.get(out, [out]), faulty) for out in self.outs}

    @property
    def looks(self):
        """The tuple of the looks."""
        return self._looks

    def gives(self, out):
        """The tuple of what the out gives."""
        if out not in self.outs:
            raise UnknownName(out)
        return self._gives[out]

    @classmethod
    def nothing(cls, outs):
        """The effect of doing nothing."""
        return cls(outs)

    def _check_outs(self, other):
        if self.outs != other.outs:
            raise OtherOuts(other.outs)

    def _before(self, texts):
        """What these texts are before this effect; those that are no outs stay the same."""
        return [text for later in texts for text in self._gives.get(later, (later,))]

    def __or__(self, other):
        self._check_outs(other)
        gives = {out: self._gives[out] + other._gives[out] for out in self.outs}
        return Effect(self.outs, looks=self._looks + other._looks, gives=gives, faulty=self.faulty or other.faulty)

    def __rshift__(self, other):
        self._check_outs(other)
        seen = self._before(other._looks)
        looks = list(self._looks) + [text for text in seen if text in self.outs]
        gives = {out: self._before(other._gives[out]) for out in self.outs}
        faulty = self.faulty or other.faulty or "dead" in seen
        return Effect(self.outs, looks=looks, gives=gives, faulty=faulty)

    def repeated(self):
        """The effect of doing this any number of times, also none."""
        before = Effect.nothing(self.outs)
        now = before | (before >> self)
        while now != before:
            before = now
            now = before | (before >> self)
        return now

    def may_replace(self, other):
        """True if this effect may replace the other one, otherwise False."""
        self._check_outs(other)
        if other.faulty:
            return True
        if self.faulty or not all([out in other._looks for out in self._looks]):
            return False
        return all([not added(self, other, out) for out in self.outs])

    def __eq__(self, other):
        return (
            isinstance(other, Effect)
            and self.outs == other.outs
            and self.faulty == other.faulty
            and self._looks == other._looks
            and self._gives == other._gives
        )
