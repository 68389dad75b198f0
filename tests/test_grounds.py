import unittest
from fractions import Fraction

from plymap.atlas import Atlas
from plymap.grounds import area_in, faces_in, ground_of
from plymap.plans import is_plan, plan_of, rounds_under
from tests.helper import (FORMS, PARTS, SQUARE, all_told, as_fraction, at, box, chance_of, dots, faults_of, grid_ring,
                          is_on, refusal, samples, some_wish, star, wish_holds)

A, B, C = ("in", "a"), ("in", "b"), ("in", "c")


def atlas_of(**layers):
    atlas = Atlas()
    for name, rings in layers.items():
        atlas.put(name, rings)
    return atlas


def across():
    return atlas_of(a=[SQUARE], b=[box(2, 2, 6, 6)])


def some_atlases(seed, many):
    chance = chance_of(seed)
    found = [Atlas(), across(), atlas_of(a=FORMS["hole"], b=FORMS["bow"]), atlas_of(a=[star((0, 0), 1, 1, 5)])]
    for number in range(many):
        found.append(atlas_of(a=[grid_ring(chance, 5, 5)], b=[grid_ring(chance, 4, 5), grid_ring(chance, 3, 5)],
                              c=[grid_ring(chance, 5, 5)]))
    return found


class Faces(unittest.TestCase):
    def test_across(self):
        atlas = across()
        self.assertEqual(atlas.numbers(), [0, 2, 3, 4])
        for wish, told in ((A, [2, 3]), (B, [3, 4]), (C, []), (("both", A, B), [3]), (("any", A, B), [2, 3, 4]),
                           (("no", A), [0, 4]), (("least", 0), [0, 2, 3, 4]), (("least", 1), [2, 3, 4]),
                           (("least", 2), [3]), (("least", 3), []), (("round", "a", 1), [2, 3]),
                           (("round", "a", 0), [0, 4]), (("round", "a", 2), []), (("round", "c", 0), [0, 2, 3, 4]),
                           (("both", A, ("no", B)), [2])):
            self.assertEqual(faces_in(atlas, wish), told, wish)

    def test_of_a_new_atlas(self):
        for wish, told in ((A, []), (("no", A), [0]), (("least", 0), [0]), (("least", 1), [])):
            self.assertEqual(faces_in(Atlas(), wish), told)

    def test_by_papers(self):
        chance = chance_of(311)
        for atlas in some_atlases(312, 8):
            for number in range(20):
                wish = some_wish(chance, ["a", "b", "c", "d"], 5)
                told = [n for n in atlas.numbers() if wish_holds(wish, atlas.paper(n)[1])]
                self.assertEqual(faces_in(atlas, wish), told)
                self.assertEqual(told, sorted(told))

    def test_nothing_is_changed(self):
        for atlas in some_atlases(313, 2):
            ahead = all_told(atlas)
            faces_in(atlas, A).append(5)
            ground_of(atlas, A)[1].append(None)
            refusal(area_in, atlas, ("no", A))
            self.assertEqual(all_told(atlas), ahead)
            self.assertEqual(ground_of(atlas, A), ground_of(atlas, A))


class Areas(unittest.TestCase):
    def test_across(self):
        atlas = across()
        for wish, told in ((A, 16), (B, 16), (("both", A, B), 4), (("any", A, B), 28), (("both", A, ("no", B)), 12),
                           (C, 0), (("least", 3), 0)):
            self.assertEqual(area_in(atlas, wish), (told, 1))

    def test_a_fraction(self):
        atlas = atlas_of(a=[dots("0,0 1/3,0 0,1/7")])
        self.assertEqual(area_in(atlas, A), (1, 42))

    def test_sums_of_the_faces(self):
        chance = chance_of(314)
        for atlas in some_atlases(315, 8):
            for number in range(12):
                wish = ("both", ("least", 1), some_wish(chance, ["a", "b", "c"], 5))
                areas = [as_fraction(atlas.area_at(n)) for n in faces_in(atlas, wish)]
                self.assertEqual(as_fraction(area_in(atlas, wish)), sum(areas, Fraction(0)))

    def test_endless(self):
        for atlas in some_atlases(316, 2):
            for wish in (("no", A), ("least", 0), ("least", -5), ("round", "a", 0), ("any", A, ("no", A))):
                self.assertEqual(refusal(area_in, atlas, wish), ("Endless",))
                self.assertEqual(refusal(ground_of, atlas, wish), ("Endless",))
                self.assertIn(0, faces_in(atlas, wish))

    def test_bad_wish_goes_first(self):
        for call in (area_in, ground_of):
            self.assertEqual(refusal(call, across(), ("no", ("no", "a"))), ("BadWish",))
            self.assertEqual(refusal(call, across(), ("any", ("least", 0), ("in", "A"))), ("BadWish",))


class Grounds(unittest.TestCase):
    def check(self, atlas, wish):
        """A plan of one layer that goes once round the faces of the wish and 0 times round all others."""
        ground = ground_of(atlas, wish)
        self.assertEqual(ground[0], 1)
        self.assertEqual(faults_of(ground), [])
        self.assertIs(is_plan(ground), True)
        within = faces_in(atlas, wish)
        for n in atlas.numbers():
            self.assertEqual(rounds_under(ground, atlas.paper(n)[0]), (int(n in within),))
        return ground

    def test_across(self):
        atlas = across()
        self.assertEqual(self.check(atlas, A), plan_of([[SQUARE]]))
        self.assertEqual(self.check(atlas, B), plan_of([[box(2, 2, 6, 6)]]))
        self.assertEqual(self.check(atlas, ("both", A, B)), plan_of([[box(2, 2, 4, 4)]]))
        self.assertEqual(self.check(atlas, ("any", A, B)), plan_of([[dots("0,0 4,0 4,2 6,2 6,6 2,6 2,4 0,4")]]))

    def test_a_wish_that_holds_nowhere(self):
        for atlas in some_atlases(321, 2):
            for wish in (("in", "z"), ("least", 9), ("both", A, ("no", A)), ("round", "b", 77)):
                self.assertEqual(self.check(atlas, wish), (1, []))
                self.assertEqual(area_in(atlas, wish), (0, 1))
                self.assertEqual(faces_in(atlas, wish), [])

    def test_a_hole_stays_a_hole(self):
        atlas = atlas_of(a=FORMS["hole"])
        self.assertEqual(self.check(atlas, A), plan_of([FORMS["hole"]]))

    def test_more_rounds_make_one(self):
        atlas = atlas_of(a=FORMS["twice round"], b=FORMS["turned about"])
        for wish in (A, B, ("round", "a", 2), ("round", "b", -1), ("least", 2)):
            self.assertEqual(self.check(atlas, wish), plan_of([[SQUARE]]))

    def test_neighbours_are_made_one(self):
        atlas = atlas_of(a=[SQUARE], b=[box(4, 0, 8, 4)])
        self.assertEqual(self.check(atlas, ("least", 1)), plan_of([[box(0, 0, 8, 4)]]))

    def test_by_points_of_all_sorts(self):
        chance = chance_of(322)
        for atlas in some_atlases(323, 3):
            sides = [piece[:2] for piece in atlas.plan()[1]]
            points = [p for p in samples(sides, 3)[::5] if not any([is_on(p, u, v) for u, v in sides])]
            for number in range(6):
                wish = ("both", ("least", 1), some_wish(chance, ["a", "b", "c"], 4))
                ground = self.check(atlas, wish)
                for p in points:
                    held = wish_holds(wish, atlas.paper(atlas.place_at(p)[1])[1])
                    self.assertEqual(rounds_under(ground, p), (int(held),))

    def test_equal_grounds_of_unlike_wishes(self):
        for atlas in some_atlases(324, 6):
            for one, other in ((("both", A, B), ("no", ("any", ("no", A), ("no", B)))), (A, ("no", ("round", "a", 0))),
                               (("least", 1), ("any", A, ("any", B, C))), (("any", A, B), ("any", B, A)),
                               (("least", 3), ("both", A, ("both", B, C)))):
                self.assertEqual(self.check(atlas, one), self.check(atlas, other))

    def test_unequal_grounds(self):
        atlas = across()
        grounds = [ground_of(atlas, wish) for wish in (A, B, ("both", A, B), ("any", A, B), C)]
        for k, one in enumerate(grounds):
            self.assertNotIn(one, grounds[k + 1:])

    def test_equal_grounds_of_unlike_atlases(self):
        one = across()
        other = atlas_of(x=[box(0, 0, 6, 6)], y=[box(4, 0, 6, 2)], z=[box(0, 4, 2, 6)], w=[box(1, 1, 5, 3)])
        whole = ("both", ("in", "x"), ("no", ("any", ("in", "y"), ("in", "z"))))
        self.assertEqual(ground_of(one, ("any", A, B)), ground_of(other, whole))
        third = Atlas()
        third.lay("g", ground_of(one, ("any", A, B)))
        self.assertEqual(ground_of(third, ("in", "g")), ground_of(other, whole))

    def test_the_ground_laid_in_again(self):
        chance = chance_of(325)
        for atlas in some_atlases(326, 6):
            for wish in (A, B, ("any", A, C), ("both", ("least", 1), some_wish(chance, ["a", "b", "c"], 4))):
                ground = ground_of(atlas, wish)
                if len(ground[1]) <= 48:
                    other = Atlas()
                    other.lay("g", ground)
                    self.assertEqual(self.check(other, ("in", "g")), ground)
                    self.assertEqual(self.check(other, ("round", "g", 1)), ground)
                    self.assertEqual(area_in(other, ("in", "g")), area_in(atlas, wish))

    def test_forms(self):
        for rings in list(FORMS.values()) + list(PARTS.values()):
            atlas = Atlas()
            if refusal(atlas.put, "a", rings) is None:
                for wish in (A, ("round", "a", 1), ("round", "a", -1), ("round", "a", 2)):
                    self.check(atlas, wish)

    def test_own_corner_again(self):
        atlas = atlas_of(a=FORMS["own corner again"])
        self.assertEqual(self.check(atlas, A), plan_of([FORMS["own corner again"]]))
        self.assertEqual(self.check(atlas, ("round", "a", 1))[1][0][0], at(0, 0))
