import itertools
import random
import unittest

from cases import Case
from kinds import HUGE, LOOSE_KEYS
from unnamedlives.effects import Effect
from unnamedlives.errors import OtherOuts, UnknownName

OUTS = ("a", "b", "c")


def parts(effect):
    """All that an effect tells."""
    return effect.outs, effect.faulty, effect.looks, {out: effect.gives(out) for out in effect.outs}


def some_effect(chance, outs=OUTS, texts=("v", "3.0")):
    """An effect made by chance, seldom a faulty one."""
    things = [*outs, *texts]
    looks = chance.sample(outs, chance.randint(0, len(outs)))
    gives = {}
    for out in outs:
        if chance.random() < 0.6:
            gives[out] = chance.sample(things, chance.randint(0, min(3, len(things))))
            if chance.random() < 0.1:
                gives[out].append("dead")
    return Effect(outs, looks=looks, gives=gives, faulty=chance.random() < 0.05)


class Naive:
    """An effect as relations: pairs of an out and what it gives, and a set of looks."""

    def __init__(self, outs, faulty, looks, pairs):
        self.outs, self.faulty, self.looks, self.pairs = outs, faulty, looks, pairs

    @staticmethod
    def of(effect):
        outs, faulty, looks, gives = parts(effect)
        return Naive(outs, faulty, set(looks), {(out, text) for out in outs for text in gives[out]})

    def either(self, other):
        return Naive(self.outs, self.faulty or other.faulty, self.looks | other.looks, self.pairs | other.pairs).told()

    def followed(self, other):
        pairs = {(out, text) for out, text in other.pairs if text not in self.outs}
        pairs |= {(out, text) for out, z in other.pairs for source, text in self.pairs if source == z}
        seen = {text for look in other.looks for source, text in self.pairs if source == look}
        looks = self.looks | {text for text in seen if text in self.outs}
        return Naive(self.outs, self.faulty or other.faulty or "dead" in seen, looks, pairs).told()

    def told(self):
        """The parts of the effect in the normal form."""
        if self.faulty:
            return self.outs, True, (), {out: ("dead",) for out in self.outs}
        gives = {}
        for out in self.outs:
            texts = {text for source, text in self.pairs if source == out}
            gives[out] = ("dead",) if "dead" in texts else tuple(sorted(texts))
        return self.outs, False, tuple(sorted(self.looks)), gives


class NormalFormTest(Case):
    def test_default_values(self):
        self.assertEqual(parts(Effect(["b", "a"])), (("b", "a"), False, (), {"b": ("b",), "a": ("a",)}))
        self.assertEqual(parts(Effect(("a",), looks=[], gives={}, faulty=False)), (("a",), False, (), {"a": ("a",)}))
        self.assertEqual(parts(Effect(["a"], gives=None)), (("a",), False, (), {"a": ("a",)}))

    def test_no_outs(self):
        for outs in [[], ()]:
            self.assertEqual(parts(Effect(outs)), ((), False, (), {}))
            self.assertEqual(parts(Effect(outs, faulty=True)), ((), True, (), {}))

    def test_arguments_behind_the_star(self):
        with self.assertRaises(TypeError):
            Effect(["a"], ["a"])

    def test_kinds(self):
        e = Effect(["a"], looks=["a"], gives={"a": ["v"]})
        self.assertEqual([type(e.outs), type(e.looks), type(e.gives("a")), type(e.faulty)], [tuple, tuple, tuple, bool])
        self.assertIs(Effect([], faulty=True).faulty, True)

    def test_what_an_out_gives(self):
        for texts, expected in [
            ([], ()), ((), ()), (["a"], ("a",)), (["b"], ("b",)), (["v"], ("v",)), (("3.0", "b", "v", "a"), ("3.0", "a", "b", "v")),
            (["dead"], ("dead",)), (["dead", "a"], ("dead",)), (["a", "v", "dead", "dead"], ("dead",)),
            (["b", "a", "b", "a"], ("a", "b")), (("v", "v"), ("v",)), (["10.0", "9.0", "1", "a1", "a"], ("1", "10.0", "9.0", "a", "a1")),
        ]:
            e = Effect(["a", "b"], gives={"a": texts})
            self.assertEqual([e.gives("a"), e.gives("b")], [expected, ("b",)], texts)

    def test_looks(self):
        for looks, expected in [([], ()), (["b"], ("b",)), (["b", "a"], ("a", "b")), (("b", "a", "b", "b"), ("a", "b")),
                                (("c", "a"), ("a", "c"))]:
            self.assertEqual(Effect(["c", "b", "a"], looks=looks).looks, expected)

    def test_a_faulty_effect(self):
        e = Effect(OUTS, looks=["a", "b"], gives={"a": ["b"], "b": [], "c": ["v", "c"]}, faulty=True)
        self.assertEqual(parts(e), (OUTS, True, (), {out: ("dead",) for out in OUTS}))
        self.assertTrue(e == Effect(OUTS, faulty=True))

    def test_a_look_at_an_out_that_gives_dead_is_no_fault(self):
        e = Effect(["a"], looks=["a"], gives={"a": ["dead"]})
        self.assertEqual(parts(e), (("a",), False, ("a",), {"a": ("dead",)}))

    def test_nothing(self):
        for outs in [[], ["b", "a"], ("a",)]:
            e = Effect.nothing(outs)
            self.assertIsInstance(e, Effect)
            self.assertEqual(parts(e), (tuple(outs), False, (), {out: (out,) for out in outs}))

    def test_the_arguments_are_copied(self):
        outs, looks, gives = ["a", "b"], ["b"], {"a": ["v", "b"]}
        e = Effect(outs, looks=looks, gives=gives)
        before = parts(e)
        outs.append("c")
        looks.append("a")
        gives["a"].append("dead")
        gives["b"] = ["v"]
        self.assertEqual(parts(e), before)
        outs, looks, gives = ["a", "b"], ["b", "a", "b"], {"a": ["v", "b", "v"], "b": []}
        Effect(outs, looks=looks, gives=gives, faulty=True)
        self.assertEqual([outs, looks, gives], [["a", "b"], ["b", "a", "b"], {"a": ["v", "b", "v"], "b": []}])

    def test_names_that_are_no_outs(self):
        for name in ["c", "dead", "A", " a", "a ", "ab", HUGE] + LOOSE_KEYS:
            for faulty in [False, True]:
                for looks in [[name], ["a", name], (name, "q"), ["b", name, "c", None]]:
                    self.refused(UnknownName, name, lambda: Effect(["a", "b"], looks=looks, faulty=faulty))
                    self.refused(UnknownName, name, lambda: Effect(["a", "b"], looks=looks, gives={"q": []}, faulty=faulty))
            e = Effect(["a", "b"])
            self.refused(UnknownName, name, lambda: e.gives(name))
            self.refused(UnknownName, name, lambda: Effect(["a"], faulty=True).gives(name))
            self.refused(UnknownName, name, lambda: Effect([]).gives(name))

    def test_keys_that_are_no_outs(self):
        for name in ["c", "dead", "1", "", 0, 1, -1, None, HUGE]:
            for faulty in [False, True]:
                for gives in [{name: ["a"]}, {"a": ["b"], name: [], "q": []}, {name: [], "q": [], "b": []}]:
                    self.refused(UnknownName, name, lambda: Effect(["a", "b"], gives=gives, faulty=faulty))
                    self.refused(UnknownName, name, lambda: Effect(["a", "b"], looks=["b"], gives=gives, faulty=faulty))
                    self.refused(UnknownName, "z", lambda: Effect(["a", "b"], looks=["z"], gives=gives, faulty=faulty))


class EqualTest(Case):
    def test_equal_effects(self):
        one = Effect(["a", "b"], looks=["b", "a"], gives={"a": ["b", "v"]})
        self.assertTrue(one == Effect(("a", "b"), looks=("a", "b", "a"), gives={"b": ["b"], "a": ("v", "b", "v")}))
        self.assertFalse(one != Effect(("a", "b"), looks=("a", "b"), gives={"a": ("v", "b")}))
        self.assertTrue(Effect(["a"], gives={"a": ["dead", "a"]}) == Effect(["a"], gives={"a": ["dead"]}))
        self.assertTrue(Effect([]) == Effect(()))

    def test_unlike_effects(self):
        one = Effect(["a", "b"], looks=["b"], gives={"a": ["b", "v"]})
        for other in [Effect(["b", "a"], looks=["b"], gives={"a": ["b", "v"]}), Effect(["a", "b"], gives={"a": ["b", "v"]}),
                      Effect(["a", "b"], looks=["b"], gives={"a": ["b"]}), Effect(["a", "b"], looks=["b"]),
                      Effect(["a", "b"], looks=["a"], gives={"a": ["b", "v"]}), Effect(["a", "b"], faulty=True),
                      Effect(["a", "b", "c"], looks=["b"], gives={"a": ["b", "v"]}),
                      Effect(["a", "b"], looks=["b"], gives={"a": ["b", "v"], "b": []})]:
            self.assertFalse(one == other)
            self.assertFalse(other == one)
            self.assertTrue(one != other)
        self.assertFalse(Effect(["a", "b"]) == Effect(["b", "a"]))
        self.assertFalse(Effect([]) == Effect([], faulty=True))
        dead = {out: ["dead"] for out in OUTS}
        self.assertFalse(Effect(OUTS, gives=dead) == Effect(OUTS, faulty=True))

    def test_what_is_no_effect(self):
        e = Effect(["a"])
        for thing in [None, True, False, 0, 1, "", "a", (), ("a",), [], {}, parts(e), object(), Effect]:
            self.assertIs(e == thing, False)
            self.assertIs(e != thing, True)


class CombiningTest(Case):
    def test_examples(self):
        p = Effect(["a", "b"], gives={"a": ["b"]})
        q = Effect(["a", "b"], looks=["a"])
        self.assertEqual([(p >> q).looks, (q >> p).looks, (p | q).gives("a"), (p | q).gives("b")],
                         [("b",), ("a",), ("a", "b"), ("b",)])
        p = Effect(["a", "b", "c"], looks=["c"], gives={"a": ["dead", "b"], "b": ["a"], "c": ["b"]})
        r = p.repeated()
        self.assertEqual([p.gives("a"), (p >> p).gives("b"), r.faulty, r.looks, r.gives("c")],
                         [("dead",), ("dead",), True, (), ("dead",)])

    def test_one_of_two(self):
        p = Effect(OUTS, looks=["b"], gives={"a": ["b", "v"], "b": [], "c": ["dead"]})
        q = Effect(OUTS, looks=["a", "b"], gives={"a": ["3.0"], "b": []})
        self.assertEqual(parts(p | q), (OUTS, False, ("a", "b"), {"a": ("3.0", "b", "v"), "b": (), "c": ("dead",)}))
        faulty = Effect(OUTS, faulty=True)
        for e in [p | faulty, faulty | q, faulty | faulty]:
            self.assertTrue(e == faulty)

    def test_one_after_the_other(self):
        p = Effect(OUTS, looks=["c"], gives={"a": ["b", "v"], "b": [], "c": ["a", "c"]})
        q = Effect(OUTS, looks=["a", "b"], gives={"a": ["a", "w"], "b": ["v"], "c": ["c", "b"]})
        self.assertEqual(parts(p >> q), (OUTS, False, ("b", "c"), {"a": ("b", "v", "w"), "b": ("v",), "c": ("a", "c")}))
        self.assertEqual(parts(q >> p), (OUTS, False, ("a", "b", "c"), {"a": ("v",), "b": (), "c": ("a", "b", "c", "w")}))

    def test_a_look_at_what_is_dead(self):
        p = Effect(OUTS, looks=["b"], gives={"a": ["dead"]})
        q = Effect(OUTS, looks=["c", "a"])
        self.assertTrue(p >> q == Effect(OUTS, faulty=True))
        self.assertEqual(parts(q >> p), (OUTS, False, ("a", "b", "c"), {"a": ("dead",), "b": ("b",), "c": ("c",)}))
        r = Effect(OUTS, looks=["b", "c"], gives={"a": ["c"]})
        self.assertEqual(parts(p >> r), (OUTS, False, ("b", "c"), {"a": ("c",), "b": ("b",), "c": ("c",)}))

    def test_a_look_at_an_out_that_gives_nothing_or_another_text(self):
        p = Effect(OUTS, gives={"a": [], "b": ["v"], "c": ["v", "a"]})
        q = Effect(OUTS, looks=["a", "b", "c"])
        self.assertEqual(parts(p >> q), (OUTS, False, ("a",), {"a": (), "b": ("v",), "c": ("a", "v")}))

    def test_dead_is_passed_on(self):
        p = Effect(OUTS, gives={"a": ["dead"]})
        q = Effect(OUTS, gives={"b": ["a", "b"], "c": ["c", "dead"], "a": []})
        self.assertEqual(parts(p >> q), (OUTS, False, (), {"a": (), "b": ("dead",), "c": ("dead",)}))

    def test_a_faulty_effect_first_or_then(self):
        faulty, p = Effect(OUTS, faulty=True), Effect(OUTS, gives={"a": ["v"], "b": []})
        for e in [faulty >> p, p >> faulty, faulty >> faulty]:
            self.assertTrue(e == faulty)

    def test_no_outs(self):
        e, faulty = Effect([]), Effect([], faulty=True)
        self.assertTrue((e | e) == e and (e >> e) == e and e.repeated() == e)
        self.assertTrue((e | faulty) == faulty and (faulty >> e) == faulty and faulty.repeated() == faulty)

    def test_the_operands_are_not_changed(self):
        p = Effect(OUTS, looks=["b"], gives={"a": ["b", "v"], "b": []})
        q = Effect(OUTS, looks=["c"], gives={"a": ["dead"], "c": ["a"]})
        before = parts(p), parts(q)
        for _ in range(2):
            p | q, p >> q, q >> p, p.repeated(), q.repeated(), p.may_replace(q), p == q
        self.assertEqual((parts(p), parts(q)), before)

    def test_other_outs(self):
        e = Effect(["a", "b"])
        for outs in [["b", "a"], ["a"], [], ["a", "b", "c"], ["a", "c"]]:
            for faulty in [False, True]:
                f = Effect(outs, faulty=faulty)
                for call in [lambda: e | f, lambda: e >> f, lambda: e.may_replace(f),
                             lambda: Effect(["a", "b"], faulty=True).may_replace(f)]:
                    self.refused(OtherOuts, tuple(outs), call)
                for call in [lambda: f | e, lambda: f >> e, lambda: f.may_replace(e)]:
                    self.refused(OtherOuts, ("a", "b"), call)

    def test_by_chance(self):
        chance = random.Random(1)
        for _ in range(3000):
            e, f = some_effect(chance), some_effect(chance)
            self.assertEqual(parts(e | f), Naive.of(e).either(Naive.of(f)))
            self.assertEqual(parts(e >> f), Naive.of(e).followed(Naive.of(f)))

    def test_laws(self):
        chance = random.Random(2)
        nothing, faulty = Effect.nothing(OUTS), Effect(OUTS, faulty=True)
        for _ in range(1000):
            e, f, g = some_effect(chance), some_effect(chance), some_effect(chance)
            self.assertTrue(nothing >> e == e and e >> nothing == e)
            self.assertTrue(e | e == e and e | f == f | e and (e | f) | g == e | (f | g))
            self.assertTrue((e >> f) >> g == e >> (f >> g))
            self.assertTrue(faulty >> e == faulty == e >> faulty == e | faulty)
            self.assertTrue((e | f) >> g == (e >> g) | (f >> g))
            self.assertTrue(e.repeated() == nothing | (e.repeated() >> e) == nothing | (e >> e.repeated()))


class RepeatedTest(Case):
    def powers(self, e, most):
        """One of the effects of doing it none to so many times."""
        total = power = Effect.nothing(e.outs)
        for _ in range(most):
            power = power >> e
            total = total | power
        return total

    def test_nothing(self):
        for outs in [[], ["a"], OUTS]:
            self.assertTrue(Effect.nothing(outs).repeated() == Effect.nothing(outs))

    def test_an_effect_that_is_done_several_times(self):
        outs = [f"x{i}" for i in range(16)]
        e = Effect(outs, gives={f"x{i}": [f"x{i + 1}"] for i in range(15)})
        r = e.repeated()
        self.assertEqual([r.gives("x0"), r.gives("x14"), r.gives("x15")], [tuple(sorted(outs)), ("x14", "x15"), ("x15",)])
        self.assertTrue(r == self.powers(e, 15))
        self.assertFalse(r == self.powers(e, 14))
        e = Effect(outs, looks=["x0"], gives={**{f"x{i}": [f"x{i + 1}"] for i in range(15)}, "x15": ["v"]})
        self.assertEqual([e.repeated().looks, e.repeated().gives("x3")[:2]], [tuple(sorted(outs)), ("v", "x10")])

    def test_faulty_only_when_it_is_done_twice(self):
        e = Effect(["a"], looks=["a"], gives={"a": ["dead"]})
        self.assertFalse(e.faulty)
        self.assertTrue((e >> e).faulty)
        self.assertTrue(e.repeated() == Effect(["a"], faulty=True))

    def test_faulty_only_when_it_is_done_often(self):
        e = Effect(OUTS, looks=["a"], gives={"a": ["b"], "b": ["c"], "c": ["dead"]})
        self.assertFalse(((e >> e) >> e).faulty)
        self.assertTrue((((e >> e) >> e) >> e).faulty)
        self.assertTrue(e.repeated().faulty)
        e = Effect(OUTS, gives={"a": ["b"], "b": ["c"], "c": ["dead"]})
        self.assertEqual(parts(e.repeated()), (OUTS, False, (), {out: ("dead",) for out in OUTS}))

    def test_an_out_that_gives_nothing(self):
        e = Effect(OUTS, looks=["b"], gives={"a": [], "b": ["a"], "c": ["v"]})
        self.assertEqual(parts(e.repeated()), (OUTS, False, ("a", "b"), {"a": ("a",), "b": ("a", "b"), "c": ("c", "v")}))

    def test_a_faulty_effect(self):
        e = Effect(OUTS, faulty=True)
        self.assertTrue(e.repeated() == e)

    def test_by_chance(self):
        chance = random.Random(3)
        for _ in range(1000):
            e = some_effect(chance)
            r = e.repeated()
            self.assertTrue(r == self.powers(e, 8))
            self.assertTrue(r >> r == r and r.repeated() == r)


class MayReplaceTest(Case):
    def test_looks(self):
        one = [Effect(OUTS, looks=looks) for looks in [[], ["a"], ["a", "b"], ["c"]]]
        found = [[e.may_replace(f) for f in one] for e in one]
        self.assertEqual(found, [[True, True, True, True], [False, True, True, False], [False, False, True, False],
                                 [False, False, False, True]])

    def test_what_an_out_gives(self):
        texts = [[], ["a"], ["b"], ["a", "b"], ["v"], ["a", "v"], ["dead"]]
        for one, other in itertools.product(texts, texts):
            e, f = Effect(["a", "b"], gives={"a": one}), Effect(["a", "b"], gives={"a": other})
            self.assertIs(e.may_replace(f), other == ["dead"] or set(one) <= set(other), (one, other))

    def test_each_out_counts(self):
        e = Effect(OUTS, gives={"c": ["a"]})
        self.assertFalse(e.may_replace(Effect(OUTS)))
        self.assertTrue(e.may_replace(Effect(OUTS, gives={"c": ["a", "b"]})))
        self.assertFalse(e.may_replace(Effect(OUTS, gives={"c": ["a", "b"], "a": ["b"]})))
        self.assertTrue(e.may_replace(Effect(OUTS, gives={"c": ["a", "b"], "a": ["dead"]})))

    def test_faulty_effects(self):
        good, faulty = Effect(OUTS, looks=OUTS, gives={out: ["dead"] for out in OUTS}), Effect(OUTS, faulty=True)
        self.assertIs(good.may_replace(faulty), True)
        self.assertIs(faulty.may_replace(faulty), True)
        self.assertIs(faulty.may_replace(good), False)
        self.assertIs(Effect([], faulty=True).may_replace(Effect([])), False)
        self.assertIs(Effect([]).may_replace(Effect([], faulty=True)), True)

    def test_by_chance(self):
        chance = random.Random(4)
        seen = {True: 0, False: 0}
        for _ in range(3000):
            outs, texts = [("a", "b"), ("a",)][chance.randint(0, 1)], ("v",)
            e, f, g = [some_effect(chance, outs, texts) for _ in range(3)]
            covers = all("dead" in f.gives(out) or set(e.gives(out)) <= set(f.gives(out)) for out in outs)
            expected = f.faulty or not e.faulty and set(e.looks) <= set(f.looks) and covers
            self.assertIs(e.may_replace(f), expected)
            seen[expected] += 1
            self.assertIs(e.may_replace(f) and f.may_replace(e), e == f)
            self.assertTrue(e.may_replace(e) and e.may_replace(e | f))
            if expected:
                self.assertTrue((e >> g).may_replace(f >> g) and (g >> e).may_replace(g >> f))
                self.assertTrue((e | g).may_replace(f | g) and e.repeated().may_replace(f.repeated()))
        self.assertGreater(min(seen.values()), 300)


if __name__ == "__main__":
    unittest.main()
