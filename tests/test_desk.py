import unittest

from plymap.atlas import Atlas
from plymap.bringing import brought_to
from plymap.crossings import fewest
from plymap.desk import Desk
from plymap.errors import NoFace, NoGround
from plymap.faces import Faces
from plymap.grounds import area_in, ground_of
from plymap.net import Net
from plymap.words import show_fraction, show_point, show_rings, show_wish
from tests.helper import (FORMS, PARTS, as_fraction, at, chance_of, grid_ring, half_sum, odd_things, refusal, some_wish,
                          star, winding)
from tests.test_words import NO_FRACTIONS, NO_POINTS, NO_TEXTS_OF_WISHES

YARD = "0,0 4,0 4,4 0,4"
SHED = "2,2 6,2 6,6 2,6"
ASKINGS = ["names", "faces", "paper 0", "where 1,1", "where 3,3", "bring 1", "bring 1/3", "area least 1",
           "cross 1,1 9,9"]


def stocked():
    desk = Desk()
    for row in ("put yard " + YARD, "put shed " + SHED):
        desk.say(row)
    return desk


def numbers_of(desk):
    return [int(word) for word in desk.say("faces").split()[1:]]


def told_by(desk):
    """Whatever a desk tells of itself."""
    return [desk.say(row) for row in ASKINGS] + [desk.say(f"paper {n}") for n in numbers_of(desk)]


class Case(unittest.TestCase):
    def says(self, desk, rows):
        for row, answer in rows:
            self.assertEqual(desk.say(row), answer, row)

    def refused(self, desk, row, expected):
        ahead = told_by(desk)
        self.assertEqual(refusal(desk.say, row), expected, row)
        self.assertEqual(told_by(desk), ahead)


class Rows(Case):
    def test_a_new_desk(self):
        self.says(Desk(), [("names", "names"), ("faces", "faces 0"), ("paper 0", "0,0"), ("where 7,1/2", "face 0"),
                           ("cross 0,0 1/2,1/2", "0"), ("area least 1", "0"), ("area in nowhere", "0"),
                           ("same in a | in b", "yes"), ("bring 1", "corners 0 pieces 0 faces 1")])

    def test_put(self):
        desk = Desk()
        self.says(desk, [("put a " + YARD, "gone come 1 marked"), ("faces", "faces 0 1"), ("names", "names a"),
                         ("put b " + SHED, "gone 1 come 2 3 4 marked"), ("put c " + YARD, "gone come marked 2 3"),
                         ("put d 0,0 1,0 0,1/2 | 20,0 21,0 21,1", "gone 2 come 5 6 7 marked"),
                         ("names", "names a b c d"), ("faces", "faces 0 3 4 5 6 7")])

    def test_two_come(self):
        self.says(Desk(), [("put a 0,0 2,2 2,0 0,2", "gone come 1 2 marked"), ("faces", "faces 0 1 2"),
                           ("paper 1", "1/2,1 a 1"), ("paper 2", "3/2,1 a -1"), ("paper 0", "-1,0")])

    def test_swap_and_out(self):
        self.says(stocked(), [("swap shed " + YARD, "gone 2 3 4 come 5 marked"), ("out yard", "gone come marked 5"),
                              ("swap shed " + YARD + " | " + YARD, "gone come marked 5"), ("paper 5", "2,2 shed 2"),
                              ("out shed", "gone 5 come marked"), ("names", "names"), ("faces", "faces 0")])

    def test_lay(self):
        self.says(stocked(), [("lay both both in yard in shed", "gone come marked 3"),
                              ("names", "names both shed yard"), ("paper 3", "3,3 both 1 shed 1 yard 1"),
                              ("lay all least 1", "gone come marked 2 3 4"),
                              ("lay none in nowhere", "gone come marked"), ("out shed", "gone come marked 3 4"),
                              ("out yard", "gone come marked 2 3")])

    def test_lay_without_what_it_was_made_of(self):
        self.says(stocked(), [("lay all least 1", "gone come marked 2 3 4"), ("out yard", "gone 3 4 come 5 marked 2"),
                              ("out shed", "gone 2 5 come 6 marked"), ("area in all", "28"), ("paper 6", "1,2 all 1")])

    def test_names_are_sorted(self):
        desk = Desk()
        for name in ("zz", "b", "a", "ab"):
            desk.say("put " + name + " " + YARD)
        self.says(desk, [("names", "names a ab b zz"), ("paper 1", "2,2 a 1 ab 1 b 1 zz 1")])

    def test_paper(self):
        self.says(stocked(), [("paper 0", "-1,0"), ("paper 2", "1,2 yard 1"), ("paper 3", "3,3 shed 1 yard 1"),
                              ("paper 4", "3,5 shed 1")])
        self.says(stocked(), [("put b 0,4 4,4 4,0 0,0 | 0,4 4,4 4,0 0,0", "gone come marked 2 3"),
                              ("paper 2", "1,2 b -2 yard 1")])

    def test_area(self):
        self.says(stocked(), [("area in yard", "16"), ("area both in yard in shed", "4"), ("area least 1", "28"),
                              ("area both in yard no in shed", "12"), ("area round yard 1", "16"),
                              ("area least 3", "0")])
        desk = Desk()
        desk.say("put a 0,0 1/3,0 0,1/7")
        self.says(desk, [("area in a", "1/42"), ("area round a -1", "0")])

    def test_same(self):
        self.says(stocked(), [("same in yard | in yard", "yes"), ("same in yard | in shed", "no"),
                              ("same least 2 | both in yard in shed", "yes"),
                              ("same both in yard no in shed | both no in shed in yard", "yes"),
                              ("same in nowhere | least 3", "yes"), ("same least 1 | least 2", "no")])

    def test_where(self):
        self.says(stocked(), [("where 0,0", "corner"), ("where 4,2", "corner"), ("where 3,0", "piece"),
                              ("where 2,3", "piece"), ("where 1,1", "face 2"), ("where 3,3", "face 3"),
                              ("where -9/7,1/2", "face 0")])

    def test_cross(self):
        self.says(stocked(), [("cross 1,1 1,3", "0"), ("cross 1,1 3,3", "1"), ("cross 1,1 5,5", "2"),
                              ("cross 3,3 9,9", "2"), ("cross -1,0 9,9", "0"), ("cross 9,9 1,1", "1")])

    def test_bring(self):
        self.says(stocked(), [("bring 1", "corners 10 pieces 12 faces 4"),
                              ("bring 1/2", "corners 10 pieces 12 faces 4"),
                              ("bring 100", "corners 0 pieces 0 faces 1"), ("bring 7/2", "corners 7 pieces 8 faces 3")])
        desk = Desk()
        desk.say("put a " + YARD)
        self.says(desk, [("bring 1", "corners 4 pieces 4 faces 2")])

    def test_bring_changes_nothing(self):
        desk = stocked()
        ahead = told_by(desk)
        desk.say("bring 3")
        self.assertEqual(told_by(desk), ahead)

    def test_answers_are_texts(self):
        for row in ASKINGS:
            self.assertIsInstance(stocked().say(row), str)


class NoRows(Case):
    def test_what_is_no_text(self):
        desk = stocked()
        for thing in [thing for thing in odd_things() if thing.__class__ is not str]:
            self.assertEqual(refusal(desk.say, thing), ("NoRow",))
        self.assertEqual(told_by(desk), told_by(stocked()))

    def test_unknown_first_words(self):
        for row in ("", " ", "  ", "x", "Names", "NAMES", "put", "puts a " + YARD, "name", "face", "faces0", "a", "0",
                    "|", " names", " put a " + YARD, "help", "quit", "get a", "in a", "names\n", "\tnames", "names,",
                    "\nnames"):
            self.refused(stocked(), row, ("NoRow",))

    def test_words_missing(self):
        for row in ("put", "put a", "swap", "swap yard", "lay", "lay a", "out", "paper", "area", "where", "cross",
                    "cross 1,1", "bring", "same", "same in", "same |", "same in yard"):
            self.refused(stocked(), row, ("NoRow",))

    def test_words_too_many(self):
        for row in ("out yard shed", "names a", "faces 0", "faces all", "paper 0 0", "paper 1 2 3", "where 1,1 2,2",
                    "cross 1,1 2,2 3,3", "bring 1 2", "out yard | shed"):
            self.refused(stocked(), row, ("NoRow",))

    def test_a_word_without_signs_counts(self):
        for row in ("names ", "faces ", " faces", "out yard ", "out  yard", "paper 0 ", "paper  0", "where 1,1 ",
                    "where  1,1", "cross 1,1  2,2", "cross 1,1 2,2 ", "bring 1 ", "bring  1"):
            self.refused(stocked(), row, ("NoRow",))
        for row, expected in (("put a ", ("NoText",)), ("put  " + YARD, ("NoName",)), ("put a  " + YARD, ("NoText",)),
                              ("put a " + YARD + " ", ("NoText",)), ("swap yard ", ("NoText",)),
                              ("lay a ", ("NoText",)),
                              ("swap  " + YARD, ("NoLayer", "")), ("out ", ("NoLayer", "")), ("paper ", ("NoText",)),
                              ("area ", ("NoText",)), ("area  in yard", ("NoText",)), ("area in yard ", ("NoText",)),
                              ("where ", ("NoText",)), ("cross 1,1 ", ("NoText",)), ("bring ", ("NoText",)),
                              ("put a", ("NoRow",)), ("lay  least 1", ("NoName",)),
                              ("put a 0,0  1,0 0,1", ("NoText",))):
            self.refused(stocked(), row, expected)

    def test_same_with_other_than_one_bar(self):
        for row in ("same in yard in shed", "same in yard", "same | in yard", "same in yard |", "same |", "same | |",
                    "same in a | in b | in c",
                    "same in a | | in b", "same | in a | in b", "same in a in b |", "same in yard|in shed",
                    "same in a |in b", "same in a || in b"):
            self.refused(stocked(), row, ("NoRow",))
        for row in ("same  | in yard", "same in yard | ", "same in yard |  in yard", "same in yard  | in yard",
                    "same a | in yard", "same in yard | b", "same in | in", "same in yard in shed | in yard"):
            self.refused(stocked(), row, ("NoText",))


class NoTexts(Case):
    def test_rings(self):
        for word in ("put a", "put yard", "put A", "swap yard", "swap nowhere", "swap A"):
            for text in ("|", "0,0 |", "| 0,0", "0,0 1,0 0", "0,0 1,0 0,1 | |", "0,0 1,0 01,1", "x", "0,0 1,0 0,2/4"):
                self.refused(stocked(), word + " " + text, ("NoText",))

    def test_points(self):
        desk = stocked()
        for text in [text for text in NO_POINTS if " " not in text]:
            for row in ("where " + text, "cross " + text + " 1,1", "cross 1,1 " + text, "cross 0,0 " + text):
                self.assertEqual(refusal(desk.say, row), ("NoText",), row)

    def test_numbers_and_sizes(self):
        desk = stocked()
        for text in [text for text in NO_FRACTIONS if " " not in text]:
            self.assertEqual(refusal(desk.say, "paper " + text), ("NoText",), text)
            self.assertEqual(refusal(desk.say, "bring " + text), ("NoText",), text)
        for text in ("1/2", "-1/2", "7/3"):
            self.assertEqual(refusal(desk.say, "paper " + text), ("NoText",))

    def test_wishes(self):
        desk = stocked()
        for text in NO_TEXTS_OF_WISHES:
            for row in ("area " + text, "lay a " + text, "lay yard " + text, "lay A " + text):
                self.assertEqual(refusal(desk.say, row), ("NoText",), row)
            if "|" not in text:
                self.assertEqual(refusal(desk.say, "same in a | " + text), ("NoText",), text)
                self.assertEqual(refusal(desk.say, "same " + text + " | in a"), ("NoText",), text)
        self.assertEqual(refusal(desk.say, "area " + "no " * 6 + "in a"), ("NoText",))
        self.assertEqual(told_by(desk), told_by(stocked()))


class Refused(Case):
    def test_no_text_goes_ahead_of_the_wish_and_the_grid(self):
        for row in ("same least 0 | least", "same least | least 0", "same no in yard | in A", "area no no", "bring -0",
                    "bring 0/2", "lay a no in"):
            self.refused(stocked(), row, ("NoText",))

    def test_what_the_wish_refuses(self):
        for row in ("area least 0", "area no in yard", "lay a least 0", "same least 0 | in yard",
                    "same in yard | no in yard", "same least -1 | least 0"):
            self.refused(stocked(), row, ("Endless",))

    def test_what_the_wish_refuses_goes_ahead_of_what_the_atlas_refuses(self):
        for row in ("lay yard least 0", "lay A no in yard", "lay  least 0"):
            self.refused(stocked(), row, ("Endless",))
        desk = stocked()
        for k, name in enumerate("abcdef"):
            desk.say(f"put {name} {k},90 {k},91 {k + 1},91")
        self.refused(desk, "lay g least 0", ("Endless",))
        self.refused(desk, "lay g least 1", ("TooMany", 8))

    def test_what_the_grid_refuses(self):
        for desk in (Desk(), stocked()):
            for text in ("0", "-1", "-1/2", "-" + "9" * 60, "-1/" + "9" * 60):
                self.refused(desk, "bring " + text, ("NoSize",))

    def test_what_the_atlas_refuses_of_put(self):
        for row, expected in (("put A " + YARD, ("NoName",)), ("put abcdefghi " + YARD, ("NoName",)),
                              ("put | " + YARD, ("NoName",)), ("put yard " + YARD, ("Taken", "yard")),
                              ("put yard 0,0", ("Taken", "yard")), ("put A 0,0", ("NoName",)),
                              ("put a 0,0", ("BadLayer", 0, 0)), ("put a 0,0 1,1", ("BadLayer", 0, 0)),
                              ("put a " + YARD + " | 0,0", ("BadLayer", 1, 0)),
                              ("put a 0,0 1,1 1,1", ("BadLayer", 0, 2)), ("put a 0,0 1,1 0,0", ("BadLayer", 0, 2)),
                              ("put a 0,0 1,1 1/1000001,2", ("BadLayer", 0, 2)),
                              ("put a 0,0 1000000000001,1 1,2", ("BadLayer", 0, 1)),
                              ("put a " + " | ".join([YARD] * 5), ("BadLayer", 0, 0)),
                              ("put a " + " ".join([YARD] * 4), ("BadLayer", 0, 0)),
                              ("put a " + " | ".join([YARD + " " + YARD + " " + YARD] * 4), ("TooMany", 48))):
            self.refused(stocked(), row, expected)

    def test_what_the_atlas_refuses_of_lay(self):
        for row, expected in (("lay A in yard", ("NoName",)), ("lay yard in yard", ("Taken", "yard")),
                              ("lay in in nowhere", None), ("lay | in yard", ("NoName",))):
            self.assertEqual(refusal(stocked().say, row), expected)
        desk = Desk()
        desk.say("put a " + show_rings([star((0, 0), 1, 1, 5)]))
        self.assertEqual(refusal(desk.say, "lay b round a 1"), ("TooMany", 48))

    def test_what_the_atlas_refuses_of_swap_and_out(self):
        for row, expected in (("swap nowhere " + YARD, ("NoLayer", "nowhere")), ("swap A " + YARD, ("NoLayer", "A")),
                              ("swap | 0,0", ("NoLayer", "|")), ("swap yard 0,0 1,1", ("BadLayer", 0, 0)),
                              ("swap yard " + " | ".join([YARD + " " + YARD + " " + YARD] * 4), ("TooMany", 48)),
                              ("out nowhere", ("NoLayer", "nowhere")), ("out Yard", ("NoLayer", "Yard")),
                              ("out |", ("NoLayer", "|")), ("out 0,0", ("NoLayer", "0,0"))):
            self.refused(stocked(), row, expected)

    def test_no_face(self):
        for text in ("1", "-1", "5", "9" * 60, "-" + "9" * 60):
            self.refused(stocked(), "paper " + text, ("NoFace", int(text)))
        with self.assertRaises(NoFace):
            Desk().say("paper 1")

    def test_no_ground(self):
        self.refused(stocked(), "cross 0,0 1,1", ("NoGround", at(0, 0)))
        self.refused(stocked(), "cross 1,1 4,1", ("NoGround", at(4, 1)))
        self.refused(stocked(), "cross 4,1 0,0", ("NoGround", at(4, 1)))
        with self.assertRaises(NoGround):
            stocked().say("cross 2,2 2,2")

    def test_numbers_go_on_as_if_nothing_had_been_refused(self):
        desk = stocked()
        for row in ("put yard 50,50 51,50 50,51", "put a 50,50 51,50", "lay x least 0", "swap no 50,50 51,50 50,51"):
            self.assertIsNotNone(refusal(desk.say, row))
        self.says(desk, [("put a 50,50 51,50 50,51", "gone come 5 marked")])


class Own(Case):
    def test_two_desks_know_nothing_of_one_another(self):
        one, other = Desk(), Desk()
        self.says(one, [("put a " + YARD, "gone come 1 marked")])
        self.says(other, [("names", "names"), ("faces", "faces 0"), ("put a " + SHED, "gone come 1 marked")])
        self.says(one, [("paper 1", "2,2 a 1"), ("put b 9,9 10,9 9,10", "gone come 2 marked")])
        self.says(other, [("paper 1", "4,4 a 1"), ("names", "names a"), ("out a", "gone 1 come marked")])
        self.says(one, [("names", "names a b")])

    def test_like_askings_tell_the_same(self):
        desk = stocked()
        self.assertEqual(told_by(desk), told_by(desk))
        self.assertEqual(told_by(stocked()), told_by(desk))


def drawn_row(chance, atlas):
    """A row by chance, and the same deed told to an atlas."""
    name = chance.choice("abcdef")
    rings = [grid_ring(chance, 5, 6) for ring in range(chance.choice([1, 1, 2]))]
    if name in atlas.names():
        if chance.random() < 0.5:
            return ("out " + name, lambda: atlas.out(name))
        return ("swap " + name + " " + show_rings(rings), lambda: atlas.swap(name, rings))
    if chance.random() < 0.7:
        return ("put " + name + " " + show_rings(rings), lambda: atlas.put(name, rings))
    wish = some_wish(chance, "abcdef", 4)
    return ("lay " + name + " " + show_wish(wish), lambda: atlas.lay(name, ground_of(atlas, wish)))


def shown(told):
    return " ".join([" ".join([word] + [str(n) for n in numbers]) for word,
                     numbers in zip(("gone", "come", "marked"), told)])


class Whole(Case):
    def test_rows_against_an_atlas(self):
        for seed in range(6):
            chance = chance_of(380 + seed)
            desk, atlas = Desk(), Atlas()
            for number in range(14):
                row, deed = drawn_row(chance, atlas)
                expected = refusal(desk.say, row)
                if expected is not None:
                    self.assertEqual(refusal(deed), expected)
                    continue
                deed()
            self.check_alike(chance, desk, atlas)

    def test_deeds_are_told_as_the_atlas_tells_them(self):
        chance = chance_of(390)
        desk, atlas = Desk(), Atlas()
        for number in range(40):
            row, deed = drawn_row(chance, atlas)
            try:
                answer = desk.say(row)
            except ValueError:
                continue
            self.assertEqual(answer, shown(deed()))

    def check_alike(self, chance, desk, atlas):
        self.assertEqual(desk.say("names"), " ".join(["names"] + atlas.names()))
        self.assertEqual(numbers_of(desk), atlas.numbers())
        for n in atlas.numbers():
            p, rounds = atlas.paper(n)
            words = [word for name in sorted(rounds) for word in (name, str(rounds[name]))]
            self.assertEqual(desk.say(f"paper {n}"), " ".join([show_point(p)] + words))
            self.assertEqual(desk.say("where " + show_point(p)), f"face {n}")
            self.assertEqual(desk.say("cross 77,78 " + show_point(p)), str(fewest(atlas, at(77, 78), p)[0]))
        for number in range(8):
            wish = ("both", ("least", 1), some_wish(chance, "abcdef", 4))
            self.assertEqual(desk.say("area " + show_wish(wish)), show_fraction(area_in(atlas, wish)))
        for size in ((1, 1), (2, 1), (2, 3)):
            plan = brought_to(atlas.plan(), size)
            net = Net(plan)
            self.assertEqual(desk.say("bring " + show_fraction(size)),
                             f"corners {len(net.corners())} pieces {len(plan[1])}"
                             f" faces {Faces(net).many()}")

    def test_areas_against_round_sums(self):
        chance = chance_of(391)
        forms = [rings for rings in list(FORMS.values()) + list(PARTS.values()) if refusal(Atlas().put, "a",
                                                                                           rings) is None]
        for number in range(30):
            layers = {"a": [grid_ring(chance, 6, 6), grid_ring(chance, 5, 6)], "b": [grid_ring(chance, 9, 5)]}
            if number < len(forms):
                layers["a"] = forms[number]
            desk = Desk()
            for name, rings in layers.items():
                desk.say("put " + name + " " + show_rings(rings))
            for name, rings in layers.items():
                total = sum([n * fraction_of(desk.say(f"area round {name} {n}")) for n in range(-12, 13) if n != 0])
                self.assertEqual(total, half_sum(rings))

    def test_places_against_the_rounds_of_the_rings(self):
        chance = chance_of(392)
        seen = {}
        for number in range(10):
            layers = {name: [grid_ring(chance, 6, 6)] for name in ("a", "bb", "c")}
            desk = Desk()
            for name, rings in layers.items():
                desk.say("put " + name + " " + show_rings(rings))
            for point in range(30):
                p = at(as_fraction((chance.randrange(-2, 40), 7)), as_fraction((chance.randrange(-2, 30), 5)))
                words = desk.say("where " + show_point(p)).split()
                seen[words[0]] = seen.get(words[0], 0) + 1
                if words[0] == "face":
                    rounds = [(name, winding(rings, p)) for name, rings in layers.items()]
                    told = [word for name, n in rounds if n != 0 for word in (name, str(n))]
                    self.assertEqual(desk.say("paper " + words[1]).split()[1:], told)
        self.assertGreater(seen["face"], 200)

    def test_deeds_in_drawn_rows_against_the_same_told_at_once(self):
        for seed in range(8):
            chance = chance_of(400 + seed)
            layers = {name: [grid_ring(chance, 5, 6)] for name in "abcde"}
            one, other = Desk(), Desk()
            for name in chance.sample("abcde", 5):
                one.say("put " + name + " " + show_rings([grid_ring(chance, 4, 6)]))
            for name in chance.sample("abcde", 3):
                one.say("out " + name)
                one.say("put " + name + " " + show_rings([grid_ring(chance, 3, 6)]))
            if refusal(one.say, "lay f least 2") is None:
                one.say("out f")
            for name in chance.sample("abcde", 5):
                one.say("swap " + name + " " + show_rings(layers[name]))
            for name, rings in layers.items():
                other.say("put " + name + " " + show_rings(rings))
            papers = [sorted([desk.say(f"paper {n}") for n in numbers_of(desk)]) for desk in (one, other)]
            self.assertEqual(papers[0], papers[1])
            for row in ("area least 1", "area least 3", "area any in a round b 1", "bring 1", "bring 3/2", "names",
                        "same in a | in b", "cross 77,0 78,9"):
                self.assertEqual(one.say(row), other.say(row))


def fraction_of(text):
    parts = [int(part) for part in text.split("/")]
    return as_fraction((parts[0], parts[1] if len(parts) > 1 else 1))
