import unittest

from plymap.errors import NoGround, PlyError
from plymap.faces import Faces
from plymap.net import Net
from plymap.own import own_point, rounds_of
from plymap.plans import plan_of
from plymap.ways import between
from tests.helper import (FORMS, PARTS, Ground, at, chance_of, corners_by, dots, faults_between, place, points_about,
                          some_plans)

PLANS = some_plans(131, 12)
FAR = 10 ** 300 - 1


class Case(unittest.TestCase):
    """Asks of plans, each made once, and looks at all that is told."""

    def made(self, *layers):
        plan = plan_of(list(layers))
        return (plan, Faces(Net(plan)), Ground(plan[1]))

    def told(self, made, p, q):
        plan, faces, ground = made
        told = between(faces, p, q)
        self.assertIsInstance(told, tuple)
        self.assertEqual(faults_between(plan, ground, p, q, told), [], (p, q, told))
        self.assertIsInstance(told[1], list)
        return told

    def both(self, made, kind, points):
        p, q = dots(points)
        for one, other in ((p, q), (q, p)):
            self.assertEqual(self.told(made, one, other)[0], kind, points)


class Ways(Case):
    def test_a_point_and_itself(self):
        made = self.made(FORMS["hole"])
        for p in dots("1/2,1/2 2,2 -1,-1 0,5 1,1/2"):
            self.assertEqual(self.told(made, p, p), ("way", [p]))

    def test_without_pieces(self):
        for many in (0, 1, 4):
            made = ((many, []), Faces(Net((many, []))), Ground([]))
            for points in ("0,0 1,1", "0,0 0,1", "1,0 0,0", "-5,7 1/3,2"):
                self.both(made, "way", points)
            self.assertEqual(between(made[1], at(0, 0), at(0, 0)), ("way", [at(0, 0)]))

    def test_near_and_far_in_one_face(self):
        made = self.made(FORMS["square"])
        for points in ("1,1 2,2", "1,1 1,2", "1,1 3,1", "1,1 1000001/1000000,1", "1/9,1/9 35/9,35/9",
                       "1/1000000,2 3999999/1000000,2"):
            self.both(made, "way", points)

    def test_round_a_part_within(self):
        made = self.made(FORMS["hole"])
        for points in ("1/2,2 7/2,2", "2,1/2 2,7/2", "1/2,1/2 7/2,7/2", "1,1/2 1,7/2", "3,1/2 3,7/2", "1/2,1 7/2,1",
                       "1/2,3 7/2,3", "1/2,1 7/2,3", "1,1/2 3,7/2"):
            self.both(made, "way", points)

    def test_round_the_square_without(self):
        made = self.made(FORMS["square"])
        for points in ("-1,2 5,2", "2,-1 2,5", "0,-1 0,5", "4,-1 4,5", "-1,0 5,0", "-1,4 5,4", "-1,-1 5,5", "-9,4 9,0",
                       "-1,5 5,-1", "-1,-1 -1,5", "-1/1000,2 4001/1000,2"):
            self.both(made, "way", points)

    def test_narrow_bends(self):
        comb = self.made(PARTS["comb"])
        for points in ("1/2,5 8,5", "1/2,5 4,5", "2,5 6,5", "2,2 2,-1", "6,2 -1,3", "1/1000,5999/1000 8999/1000,5",
                       "1/2,1 8,1", "2,6 6,6", "4,5 8,1/2"):
            self.both(comb, "way", points)
        coil = self.made(PARTS["coil"])
        for points in ("1/2,1/2 11/2,11/2", "1/2,1/2 4,1/2", "1/2,5 5/2,5", "-1,3/2 4,6", "3/2,3/2 7/2,3/2", "4,6 4,11",
                       "2,1/8 2,19/2"):
            self.both(coil, "way", points)
        sliver = self.made(PARTS["sliver"])
        self.both(sliver, "way", "1,1/800 1999,1/800")
        self.both(sliver, "way", "1000,7/4 1000,5/4")

    def test_parts_that_lie_in_between(self):
        made = self.made(PARTS["three above one another within"])
        for points in ("5,1/2 5,17/2", "5,1/2 5,5/2", "5,5/2 5,5", "3,1/2 3,8", "6,1/2 6,8", "1,1 8,1", "1,7 8,7",
                       "4,5 4,17/2", "1,3 8,3", "2,1 7,1"):
            self.both(made, "way", points)
        made = self.made([dots("0,0 20,0 20,20 0,20")] + [dots(f"{x},{y} {x + 2},{y} {x + 1},{y + 2}")
                                                           for x in (2, 6, 10, 14) for y in (2, 6, 10, 14)])
        for points in ("1,1 19,19", "1,3 19,3", "3,1 3,19", "7,9 15,5", "2,1 16,19", "5,1 5,19"):
            self.both(made, "way", points)

    def test_outermost_between_parts(self):
        for name in ("two beside", "three above one another", "a chain of corners", "uprights", "fan"):
            made = self.made(PARTS[name])
            self.both(made, "way", "-9,-9 19,19")
            self.both(made, "way", "-9,-9 -9,19")
            self.both(made, "way", "-9,19 19,-9")
        self.both(self.made([dots("0,0 1,5 2,0"), dots("4,0 5,5 6,0")]), "way", "3,1 3,2")
        self.both(self.made([dots("0,0 1,5 2,0"), dots("4,0 5,5 6,0")]), "way", "-1,1 7,1")

    def test_through_a_gap_between_corners(self):
        made = self.made([dots("0,0 9,0 9,9 0,9"), dots("4,0 5,4 3,4"), dots("4,5 5,8 3,8")])
        self.both(made, "way", "1,1 8,1")
        self.both(made, "way", "1,9/2 8,9/2")

    def test_past_a_corner_that_parts_touch(self):
        made = self.made(FORMS["bow"])
        self.both(made, "way", "1,1/2 1,3/2")
        made = self.made(PARTS["a chain shut within"])
        for points in ("-1,-1 8,8", "1,3 9/2,0", "1,3 -1,3", "9/2,11/2 2,3"):
            self.both(made, "way", points)

    def test_numbers_far_beyond(self):
        made = self.made(FORMS["square"])
        for p, q in (((-FAR, 2, 1), (FAR, 2, 1)), ((1, FAR, 1), (1, -FAR, 1)), ((-1, 2, FAR), (4 * FAR + 1, 2, FAR)),
                     ((1, 1, FAR), (4 * FAR - 1, 4 * FAR - 1, FAR)), ((-FAR, 0, 1), (FAR, 4, 1))):
            self.assertEqual(self.told(made, p, q)[0], "way")
            self.assertEqual(self.told(made, q, p)[0], "way")

    def test_numbers_at_the_bounds(self):
        made = self.made(FORMS["bounds"])
        points = [own_point(made[1], f) for f in range(made[1].many())]
        for p in points + [(10 ** 12, 3, 7), (0, 1, 10 ** 6)]:
            for q in points:
                self.told(made, p, q)

    def test_own_points_to_all_about(self):
        chance = chance_of(132)
        for plan in PLANS:
            made = (plan, Faces(Net(plan)), Ground(plan[1]))
            for p in points_about(chance, plan, 8):
                if made[2].is_ground(p):
                    self.told(made, p, p)
                    for f in chance.sample(range(made[1].many()), min(4, made[1].many())):
                        self.told(made, p, own_point(made[1], f))

    def test_points_about(self):
        chance = chance_of(133)
        for plan in PLANS:
            made = (plan, Faces(Net(plan)), Ground(plan[1]))
            points = [p for p in points_about(chance, plan, 16) if made[2].is_ground(p)]
            for p, q in zip(points, points[1:]):
                self.told(made, p, q)


class Rings(Case):
    def test_beside(self):
        self.both(self.made(FORMS["bow"]), "ring", "1/2,1 3/2,1")
        self.both(self.made(FORMS["square"], [dots("4,0 8,0 8,4 4,4")]), "ring", "2,2 6,2")

    def test_within_one_another(self):
        made = self.made(PARTS["within and within"])
        for points in ("1/2,2 5/4,2", "1/2,2 2,2", "5/4,2 2,2"):
            self.both(made, "ring", points)

    def test_one_of_them_the_outermost(self):
        made = self.made(PARTS["within and within"])
        for points in ("-1,2 1/2,2", "-1,2 5/4,2", "-1,2 2,2", "2,5 2,2", "5,2 5/4,2"):
            self.both(made, "ring", points)

    def test_equal_rounds_of_all_layers(self):
        made = self.made(FORMS["hole"])
        self.assertEqual(rounds_of(made[1], 0), rounds_of(made[1], 2))
        self.both(made, "ring", "-1,2 2,2")
        made = self.made(PARTS["two beside"])
        self.assertEqual(rounds_of(made[1], 1), rounds_of(made[1], 2))
        self.both(made, "ring", "1/2,1/2 7/2,1")
        made = self.made(FORMS["corner on a corner"])
        self.both(made, "ring", "2,2 11/2,9/2")

    def test_far_parts_of_the_plan(self):
        made = self.made(PARTS["two within"])
        self.both(made, "ring", "3,5/2 6,6")
        self.both(made, "ring", "3,5/2 1,1")
        self.both(made, "ring", "3,5/2 -1,1")

    def test_touching_parts(self):
        made = self.made(PARTS["within and touching the rim"])
        for points in ("1,1 4,4", "1,1 7,4", "7,4 4,4", "-1,0 1,1", "9,4 7,4"):
            self.both(made, "ring", points)

    def test_all_pairs_of_faces(self):
        for plan in PLANS:
            made = (plan, Faces(Net(plan)), Ground(plan[1]))
            step = 1 + made[1].many() // 9
            points = [own_point(made[1], f) for f in range(made[1].many())]
            for f, p in list(enumerate(points))[::step]:
                for g, q in list(enumerate(points))[::step]:
                    self.assertEqual(self.told(made, p, q)[0], "way" if f == g else "ring")


class Refused(Case):
    def refuses(self, faces, p, q, point):
        with self.assertRaises(NoGround) as caught:
            between(faces, p, q)
        self.assertEqual(caught.exception.point, point)
        self.assertIsInstance(caught.exception, PlyError)

    def test_the_first_the_second_and_both(self):
        faces = Faces(Net(plan_of([FORMS["bow"]])))
        ground = dots("1/2,1 3/2,1 5,5")
        bad = dots("0,0 1,1 2,2 0,1 1/2,1/2 3/2,1/2 2,1")
        for p in bad:
            for q in ground:
                self.refuses(faces, p, q, p)
                self.refuses(faces, q, p, p)
            for q in bad:
                self.refuses(faces, p, q, p)

    def test_the_very_thing_is_its_field(self):
        faces = Faces(Net(plan_of([FORMS["bow"]])))
        p, q = at(1, 1), at(0, 1)
        for one, other, point in ((p, q, p), (at(5, 5), q, q)):
            with self.assertRaises(NoGround) as caught:
                between(faces, one, other)
            self.assertIs(caught.exception.point, point)

    def test_of_all_forms(self):
        for plan in PLANS:
            faces = Faces(Net(plan))
            p = own_point(faces, 0)
            for z in corners_by(plan)[::1 + len(plan[1]) // 9]:
                self.refuses(faces, z, p, z)
                self.refuses(faces, p, z, z)
            for a, b, passes in plan[1][::1 + len(plan[1]) // 9]:
                (xa, ya), (xb, yb) = place(a), place(b)
                z = at((2 * xa + xb) / 3, (2 * ya + yb) / 3)
                self.refuses(faces, z, p, z)
                self.refuses(faces, p, z, z)

    def test_what_is_refused_changes_nothing(self):
        faces = Faces(Net(plan_of([FORMS["bow"]])))
        p, q = dots("1,1/2 1,3/2")
        first = between(faces, p, q)
        self.refuses(faces, at(1, 1), p, at(1, 1))
        self.assertEqual(between(faces, p, q), first)


class Kept(Case):
    def test_told_lists_are_new_ones(self):
        faces = Faces(Net(plan_of([FORMS["hole"]])))
        for points in ("1/2,2 7/2,2", "1/2,2 2,2", "1,1/2 1,1/2", "1,1/2 2,1/2"):
            p, q = dots(points)
            first = between(faces, p, q)
            kept = (first[0], list(first[1]))
            first[1].clear()
            self.assertEqual(between(faces, p, q), kept)
            self.assertIsNot(between(faces, p, q)[1], between(faces, p, q)[1])

    def test_two_plans_by_turns(self):
        one, other = plan_of([FORMS["hole"]]), plan_of([FORMS["bow"]])
        pairs = [dots(points) for points in ("1/2,2 7/2,2", "5,5 -1,-1", "-1,2 5,2")]
        alone = [[between(Faces(Net(plan)), p, q) for p, q in pairs] for plan in (one, other)]
        made = [Faces(Net(one)), Faces(Net(other))]
        turns = [[between(faces, p, q) for faces in made] for p, q in pairs]
        self.assertEqual(turns, [list(pair) for pair in zip(*alone)])

    def test_what_is_handed_in_stays(self):
        for plan in PLANS[::5]:
            faces = Faces(Net(plan))
            first = (faces.net().plan(), [faces.rings_at(f) for f in range(faces.many())])
            points = [own_point(faces, f) for f in range(faces.many())][:9]
            for p, q in zip(points, points[1:] + points[:1]):
                between(faces, p, q)
                between(faces, p, at(10 ** 9, 1))
            self.assertEqual((faces.net().plan(), [faces.rings_at(f) for f in range(faces.many())]), first)
            self.assertEqual(first[0], plan)
