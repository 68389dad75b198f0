import unittest

from plymap.errors import NoText, PlyError
from plymap.points import point_by
from plymap.ratios import fraction
from plymap.words import (read_fraction, read_point, read_rings, read_wish, show_fraction, show_point, show_rings,
                          show_wish)
from tests.helper import FORMS, PARTS, at, chance_of, dots, odd_things, refusal, some_wish
from tests.test_names import NAMES, NO_NAMES
from tests.test_wishes import NO_WISHES, nested

SIXTY = "9" * 60
FRACTIONS = {"0": (0, 1), "1": (1, 1), "-1": (-1, 1), "10": (10, 1), "1/2": (1, 2), "-1/2": (-1, 2), "-7/3": (-7, 3),
             "100/7": (100, 7), "12345678901/10": (12345678901, 10), "3/1000": (3, 1000), SIXTY: (10 ** 60 - 1, 1),
             "-" + SIXTY: (1 - 10 ** 60, 1), "1/" + SIXTY: (1, 10 ** 60 - 1), "-1" + "0" * 59: (-(10 ** 59), 1),
             "-1" + "0" * 59 + "/" + SIXTY: (-(10 ** 59), 10 ** 60 - 1)}
NO_FRACTIONS = ["", "-", "/", "-/2", "1/", "/2", "00", "01", "-01", "-0", "0/2", "0/1", "+1", "+0", "1/1", "2/1",
                "1/0", "0/0", "-0/2", "2/4", "-2/4", "6/3", "10/4", "1/02", "1/-2", "-1/-2", "1/+2", "01/2", "--1",
                "1-", "1/2/3", "1//2", " 1", "1 ", "1 /2", "1/ 2", " ", "1  ", "1.0", "1,0", "1_0", "1e3", "0x1", "a",
                "1a", "a1", "|", "1|2", "\u00bd", "\u0661", "\u00b2", "\uff11", "1\n", "\t1", "1/2 ", "- 1", "1" * 61,
                "-" + "1" * 61, "1/" + "1" * 61, "1" * 61 + "/2", "0" * 61, "1" * 5000, "1/" + "3" * 5000]
POINTS = {"0,0": (0, 0, 1), "1,-2": (1, -2, 1), "1/2,1/3": (3, 2, 6), "-1/2,1": (-1, 2, 2), "5/6,-7/6": (5, -7, 6)}
NO_POINTS = ["", ",", "1", "1,", ",1", "1,2,3", "1,,2", "1, 2", "1 ,2", " 1,2", "1,2 ", "1;2", "1 2", "(1,2)", "01,2",
             "1,-0", "2/4,1", "1,4/2", "1/1,1", "1/2", "1," + "1" * 61, "1" * 61 + ",1", "1,1/" + "3" * 61, "x,y",
             "1,2/", "|", "1,2|"]
WISHES = {"in a": ("in", "a"), "round abcdefgh -3": ("round", "abcdefgh", -3), "least 0": ("least", 0),
          "no in a": ("no", ("in", "a")), "both in a in b": ("both", ("in", "a"), ("in", "b")),
          "any least 2 no in c": ("any", ("least", 2), ("no", ("in", "c"))), "in in": ("in", "in"),
          "round round 1": ("round", "round", 1), "in any": ("in", "any"), "least " + SIXTY: ("least", 10 ** 60 - 1),
          "both both in a in b any in c in d": ("both", ("both", ("in", "a"), ("in", "b")),
                                                ("any", ("in", "c"), ("in", "d"))),
          "any in no no in no": ("any", ("in", "no"), ("no", ("in", "no")))}
NO_TEXTS_OF_WISHES = [
    "", " ", "in", "in ", "in  a", " in a", "in a ", "in a b", "in A", "in abcdefghi", "in a1", "in 1", "In a",
    "in\ta", "round", "round a", "round a ", "round 1 a", "round a 01", "round a -0", "round a +1", "round a 1/2",
    "round a 1 1", "round a b", "round A 1", "least", "least a", "least 1 1", "least -0", "least 00", "least 1/1",
    "least " + "1" * 61, "round a " + "1" * 61, "least -" + "1" * 61, "no", "no a", "no no", "no in a in b",
    "no  in a", "both", "both in a", "both in a in b in c", "both in a b",
    "both in a, in b", "any in a", "any in a any", "not in a", "and in a in b", "(in a)", "name a", "number 1",
    "wish in a", "|", "in a | in b", "a", "in |", "true", "least True"]


class Fractions(unittest.TestCase):
    def test_shown_and_read(self):
        for text, one in FRACTIONS.items():
            self.assertEqual(show_fraction(one), text)
            self.assertEqual(read_fraction(text), one)

    def test_read_again(self):
        chance = chance_of(371)
        for number in range(300):
            many = 10 ** chance.choice([1, 3, 20, 59])
            one = fraction(chance.randrange(-many, many), chance.randrange(1, many))
            self.assertEqual(read_fraction(show_fraction(one)), one)

    def test_no_texts(self):
        for text in NO_FRACTIONS:
            self.assertEqual(refusal(read_fraction, text), ("NoText",), text)

    def test_sixty_figures_each(self):
        for top in ("1" + "0" * 59, "-1" + "0" * 59):
            self.assertEqual(read_fraction(top + "/" + SIXTY), (int(top), 10 ** 60 - 1))
            self.assertEqual(refusal(read_fraction, top + "0/" + SIXTY), ("NoText",))
            self.assertEqual(refusal(read_fraction, top + "/" + SIXTY + "9"), ("NoText",))

    def test_long_numbers_are_shown(self):
        for figures in (61, 300, 700, 3999):
            many = 10 ** figures - 1
            self.assertEqual(show_fraction((-many, 1)), "-" + "9" * figures)
            self.assertEqual(show_fraction((many, many - 1)), "9" * figures + "/" + "9" * (figures - 1) + "8")

    def test_what_is_no_text(self):
        for thing in [thing for thing in odd_things() if thing.__class__ is not str]:
            for call in (read_fraction, read_point, read_rings, read_wish):
                self.assertEqual(refusal(call, thing), ("NoText",))
        self.assertTrue(issubclass(NoText, PlyError))


class Points(unittest.TestCase):
    def test_shown_and_read(self):
        for text, p in POINTS.items():
            self.assertEqual(show_point(p), text)
            self.assertEqual(read_point(text), p)

    def test_each_number_in_its_own_lowest_terms(self):
        self.assertEqual(show_point((2, 3, 4)), "1/2,3/4")
        self.assertEqual(show_point((4, 6, 9)), "4/9,2/3")
        self.assertEqual(show_point((0, 1, 5)), "0,1/5")
        self.assertEqual(read_point("1/2,3/4"), (2, 3, 4))

    def test_read_again(self):
        chance = chance_of(372)
        for number in range(300):
            many = 10 ** chance.choice([1, 3, 20, 59])
            p = point_by(chance.randrange(-many, many), chance.randrange(-many, many), chance.randrange(1, many))
            self.assertEqual(read_point(show_point(p)), p)

    def test_no_texts(self):
        for text in NO_POINTS + [one + ",1" for one in NO_FRACTIONS] + ["1," + one for one in NO_FRACTIONS]:
            self.assertEqual(refusal(read_point, text), ("NoText",), text)

    def test_long_numbers_are_shown(self):
        many = 10 ** 700 - 1
        self.assertEqual(show_point((many, -many, 1)), "9" * 700 + ",-" + "9" * 700)


class Rings(unittest.TestCase):
    def test_shown_and_read(self):
        for text, rings in (("0,0", [dots("0,0")]), ("0,0 1,0 0,1/2", [dots("0,0 1,0 0,1/2")]),
                            ("0,0 | 1,1", [dots("0,0"), dots("1,1")]), ("0,0 0,0 0,0", [dots("0,0 0,0 0,0")]),
                            ("1,1 2,2 | 3,3 | 4,4 -1/3,5", [dots("1,1 2,2"), dots("3,3"), dots("4,4 -1/3,5")])):
            self.assertEqual(show_rings(rings), text)
            self.assertEqual(read_rings(text), rings)

    def test_forms(self):
        for rings in list(FORMS.values()) + list(PARTS.values()):
            self.assertEqual(read_rings(show_rings(rings)), rings)

    def test_any_number_of_points_and_rings(self):
        rings = [[at(k, -k) for k in range(300)]] * 9
        self.assertEqual(read_rings(show_rings(rings)), rings)
        self.assertEqual(len({id(ring) for ring in read_rings(show_rings(rings))}), 9)

    def test_points_of_any_size(self):
        far = [[(10 ** 59, 1, 1), (1, -(10 ** 59), 10 ** 59 - 1)]]
        self.assertEqual(read_rings(show_rings(far)), far)

    def test_no_texts(self):
        for text in ["", " ", "|", " | ", "0,0 |", "| 0,0", "0,0 | ", " | 0,0", "0,0 | | 1,1", "0,0 |  | 1,1",
                     "0,0  1,1", " 0,0", "0,0 ", "0,0| 1,1", "0,0 |1,1", "0,0|1,1", "0,0 || 1,1", "0,0 |  1,1",
                     "0,0  | 1,1", "0,0 ; 1,1", "0,0 1", "0,0 1,1 x", "0,0\n1,1"] + NO_POINTS:
            self.assertEqual(refusal(read_rings, text), ("NoText",), text)
            self.assertEqual(refusal(read_rings, "1,1 | 2,2 3,3 | 0,0 1,1 | " + text), ("NoText",), text)


class Wishes(unittest.TestCase):
    def test_shown_and_read(self):
        for text, wish in WISHES.items():
            self.assertEqual(show_wish(wish), text)
            self.assertEqual(read_wish(text), wish)

    def test_names(self):
        for name in NAMES:
            self.assertEqual(read_wish("in " + name), ("in", name))
            self.assertEqual(show_wish(("round", name, 5)), "round " + name + " 5")
        for name in NO_NAMES:
            self.assertEqual(refusal(read_wish, "in " + name), ("NoText",))
            self.assertEqual(refusal(read_wish, "any in a round " + name + " 1"), ("NoText",))

    def test_read_again(self):
        chance = chance_of(373)
        for number in range(400):
            wish = some_wish(chance, NAMES + ["in", "no", "least", "both", "any", "round"], 6)
            self.assertEqual(read_wish(show_wish(wish)), wish)

    def test_six_deep_and_seven_deep(self):
        for kind in ("no", "both", "any"):
            for depth in range(1, 7):
                wish = nested(depth, kind)
                self.assertEqual(read_wish(show_wish(wish)), wish)
            text = {"no": "no " * 6 + "in a", "both": "both " * 6 + "in a" + " in a" * 6,
                    "any": "any in a " * 6 + "in a"}[kind]
            self.assertEqual(refusal(read_wish, text), ("NoText",))
            self.assertEqual(refusal(show_wish, nested(7, kind)), ("BadWish",))
        self.assertEqual(read_wish("no " * 5 + "in a"), nested(6, "no"))

    def test_very_deep(self):
        self.assertEqual(refusal(read_wish, "no " * 5000 + "in a"), ("NoText",))
        self.assertEqual(refusal(read_wish, "both " * 5000 + "in a"), ("NoText",))

    def test_a_full_tree(self):
        wish = ("least", -1)
        for depth in range(5):
            wish = ("both", wish, wish)
        self.assertEqual(read_wish(show_wish(wish)), wish)

    def test_no_texts(self):
        for text in NO_TEXTS_OF_WISHES:
            self.assertEqual(refusal(read_wish, text), ("NoText",), text)

    def test_long_numbers_are_shown(self):
        self.assertEqual(show_wish(("least", -(10 ** 699))), "least -1" + "0" * 699)
        self.assertEqual(refusal(read_wish, "least -1" + "0" * 60), ("NoText",))

    def test_bad_wishes_are_not_shown(self):
        for thing in NO_WISHES + odd_things():
            self.assertEqual(refusal(show_wish, thing), ("BadWish",))
