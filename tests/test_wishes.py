import unittest

from plymap.atlas import Atlas
from plymap.grounds import area_in, faces_in, ground_of
from plymap.wishes import holds, is_wish
from tests.helper import FORMS, Sore, chance_of, odd_things, refusal, some_wish, wish_holds
from tests.test_names import NAMES, NO_NAMES

IN = ("in", "a")
KINDS = [IN, ("round", "a", 2), ("least", 1), ("no", IN), ("both", IN, ("least", 2)), ("any", ("no", IN), IN)]
NUMBERS = [0, 1, -1, 7, -(10 ** 299), 10 ** 299]


def deeper(wish, kind):
    return ("no", wish) if kind == "no" else (kind, wish, IN) if kind == "both" else (kind, IN, wish)


def nested(depth, kind):
    wish = IN
    for number in range(depth - 1):
        wish = deeper(wish, kind)
    return wish


NO_WISHES = [
    (), ("in",), ("in", "a", "b"), ("in", "a", 1), ("in", 1), ("in", None), ("in", ("a",)), ("in", IN), ("in", ["a"]),
    ("round",), ("round", "a"), ("round", 1), ("round", 1, "a"), ("round", "a", "1"), ("round", "a", True),
    ("round", "a", False), ("round", "a", 1.0), ("round", "a", None), ("round", "a", (1,)), ("round", "a", 1, 1),
    ("least",), ("least", True), ("least", False), ("least", "1"), ("least", "a"), ("least", 1.0), ("least", None),
    ("least", 1, 1), ("least", "a", 1), ("least", IN), ("no",), ("no", "a"), ("no", IN, IN), ("no", None), ("no", ()),
    ("no", "in", "a"), ("both",), ("both", IN), ("both", IN, IN, IN), ("both", IN, "a"), ("both", "a", IN),
    ("both", IN, None), ("both", (IN, IN)), ("any",), ("any", IN), ("any", IN, IN, IN), ("any", IN, ()),
    ("any", (), IN), ("In", "a"), ("IN", "a"), ("in ", "a"), ("", "a"), ("", IN), ("out", "a"), ("not", IN),
    ("and", IN, IN), ("or", IN, IN), ("all", IN, IN), ("most", 1), ("name", "a"), ("number", 1), ("wish", IN),
    (None, "a"), (1, "a"), (("in",), "a"), (IN, IN), ["in", "a"], ["no", IN], ("no", ["in", "a"]), "in a", "in", (IN,),
    ("both", IN, ["in", "a"]), ("any", ["least", 1], IN), ("no", ("no", ("no", ("in", "A")))), (Sore(), "a"),
    ("in", Sore()), ("least", Sore()), ("no", Sore()), ("both", IN, Sore()), ("round", "a", Sore()), {"in": "a"},
]


class Wishes(unittest.TestCase):
    def test_each_kind(self):
        for wish in KINDS:
            self.assertIs(is_wish(wish), True, wish)

    def test_names_and_numbers(self):
        for name in NAMES + ["notin"]:
            self.assertIs(is_wish(("in", name)), True, name)
            for number in NUMBERS:
                self.assertIs(is_wish(("round", name, number)), True)
        for number in NUMBERS:
            self.assertIs(is_wish(("least", number)), True)

    def test_bad_names(self):
        for name in NO_NAMES:
            for wish in (("in", name), ("round", name, 1), ("no", ("in", name)), ("both", IN, ("round", name, 0))):
                self.assertIs(is_wish(wish), False, wish)

    def test_six_deep_and_one_deeper(self):
        for kind in ("no", "both", "any"):
            for depth in range(1, 7):
                self.assertIs(is_wish(nested(depth, kind)), True, depth)
            for depth in (7, 8, 50):
                self.assertIs(is_wish(nested(depth, kind)), False, depth)

    def test_the_deepest_part_counts(self):
        deep = nested(5, "no")
        for kind in ("both", "any"):
            self.assertIs(is_wish((kind, deep, IN)), True)
            self.assertIs(is_wish((kind, IN, deep)), True)
            self.assertIs(is_wish((kind, IN, ("no", deep))), False)
            self.assertIs(is_wish((kind, ("no", deep), IN)), False)
            full = IN
            for depth in range(5):
                full = (kind, full, full)
            self.assertIs(is_wish(full), True)
            self.assertIs(is_wish(("no", full)), False)

    def test_very_deep(self):
        wish = IN
        for number in range(20000):
            wish = ("no", wish)
        self.assertIs(is_wish(wish), False)

    def test_no_wishes(self):
        for thing in NO_WISHES + odd_things():
            self.assertIs(is_wish(thing), False, type(thing))

    def test_no_wishes_within(self):
        for thing in NO_WISHES + odd_things():
            for wish in (("no", thing), ("both", thing, IN), ("both", IN, thing), ("any", thing, IN),
                         ("any", IN, ("no", thing))):
                self.assertIs(is_wish(wish), False)

    def test_by_chance(self):
        chance = chance_of(301)
        for number in range(200):
            self.assertIs(is_wish(some_wish(chance, NAMES, 6)), True)


class Holds(unittest.TestCase):
    def check(self, wish, rounds, told):
        self.assertIs(holds(wish, rounds), told, (wish, rounds))

    def test_in(self):
        for rounds, told in (({"a": 1}, True), ({"a": -2}, True), ({"a": 0}, False), ({}, False), ({"b": 1}, False)):
            self.check(IN, rounds, told)

    def test_round(self):
        for n in (-1, 0, 2, 10 ** 299):
            for number in (-1, 0, 2, 10 ** 299):
                self.check(("round", "a", n), {"a": number, "b": n}, n == number)
            self.check(("round", "a", n), {"b": n}, n == 0)

    def test_least(self):
        rounds = {"a": 1, "b": 0, "c": -3, "d": 2}
        for n in (-(10 ** 299), -1, 0, 1, 2, 3, 4, 5, 10 ** 299):
            self.check(("least", n), rounds, n <= 3)
            self.check(("least", n), {}, n <= 0)
            self.check(("least", n), {"a": 0}, n <= 0)

    def test_no_both_any(self):
        one, other = ("in", "a"), ("in", "b")
        for a in (0, 1):
            for b in (0, 5):
                rounds = {"a": a, "b": b}
                self.check(("no", one), rounds, a == 0)
                self.check(("both", one, other), rounds, a != 0 and b != 0)
                self.check(("any", one, other), rounds, a != 0 or b != 0)
                self.check(("both", one, ("no", other)), rounds, a != 0 and b == 0)

    def test_by_chance(self):
        chance = chance_of(302)
        told = {True: 0, False: 0}
        for number in range(600):
            wish = some_wish(chance, ["a", "b", "c", "zz"], 6)
            rounds = {name: chance.randrange(-2, 3) for name in "abcde" if chance.random() < 0.6}
            ahead = dict(rounds)
            self.check(wish, rounds, wish_holds(wish, rounds))
            self.assertEqual(rounds, ahead)
            told[holds(wish, rounds)] += 1
        self.assertGreater(min(told.values()), 150)

    def test_bad_wishes(self):
        atlas = Atlas()
        atlas.put("a", FORMS["square"])
        bad = NO_WISHES + odd_things() + [nested(7, "no"), ("any", IN, nested(6, "both")), ("no", ("in", ""))]
        for thing in bad:
            self.assertEqual(refusal(holds, thing, {"a": 1}), ("BadWish",))
            self.assertEqual(refusal(holds, thing, {}), ("BadWish",))
            for call in (faces_in, area_in, ground_of):
                self.assertEqual(refusal(call, atlas, thing), ("BadWish",))
                self.assertEqual(refusal(call, Atlas(), thing), ("BadWish",))

    def test_a_bad_wish_is_seen_where_it_is_not_asked(self):
        for wish in (("any", ("least", 0), ("in", "")), ("both", ("least", 9), ("in", ""))):
            self.assertEqual(refusal(holds, wish, {"a": 1}), ("BadWish",))
