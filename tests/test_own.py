import unittest

from plymap.errors import NoFace
from plymap.faces import Faces
from plymap.net import Net
from plymap.own import own_point, rounds_of
from plymap.plans import laid_over, plan_of
from plymap.points import is_point
from plymap.rings import row_of
from tests.helper import (FORMS, PARTS, Ground, at, corners_by, dots, ends_by, halves_by, height, place,
                          rounds_of_strokes, some_plans)

PLANS = some_plans(101, 12)


def faces_of(*layers):
    return Faces(Net(plan_of(list(layers))))


def own_points(faces):
    return [own_point(faces, f) for f in range(faces.many())]


def own_by(plan, rings):
    """The own point of a face with these rings, the rim first, word by word."""
    ends = ends_by(plan)
    rim = rings[0]
    p = min([place(ends[h][0]) for h in rim])
    first = [h for h in halves_by(plan, at(*p)) if h in rim][0]
    corners = [place(ends[h][0])[0] for ring in rings for h in ring]
    x = (p[0] + min([number for number in corners if number > p[0]])) / 2
    heights = []
    for ring in rings:
        for h in ring:
            side = sorted([place(end) for end in ends[h]])
            if side[0][0] < x < side[1][0]:
                heights.append(height(side, x))
    low = height([place(end) for end in ends[first]], x)
    return at(x, (low + min([number for number in heights if number > low])) / 2)


class Points(unittest.TestCase):
    def test_by_hand(self):
        for rings, points in ((FORMS["square"], "-1,0 2,2"), (FORMS["bow"], "-1,0 1/2,1 3/2,1"),
                              (FORMS["hole"], "-1,0 1/2,2 2,2"), (FORMS["corner on a side"], "-1,0 2,2 5,2"),
                              (PARTS["two beside"], "-1,0 1/2,1/2 7/2,1"),
                              (PARTS["two within"], "-1,0 1,9/2 5/2,9/4 6,6"),
                              (PARTS["comb"], "-1,0 1/2,3")):
            self.assertEqual(own_points(faces_of(rings)), dots(points))

    def test_a_part_within_that_hides_nothing_at_the_left(self):
        self.assertEqual(own_point(faces_of([dots("0,0 8,0 8,8 0,8")]), 1), at(4, 4))
        self.assertEqual(own_point(faces_of([dots("0,0 8,0 8,8 0,8"), dots("2,1 6,1 6,2 2,2")]), 1), at(1, 4))

    def test_a_part_within_that_is_passed_below(self):
        faces = faces_of([dots("0,0 8,-1 8,9 0,8"), dots("0,0 4,3 4,4"), dots("6,5 7,5 7,6")])
        self.assertEqual(own_points(faces), dots("-1,0 2,7/4 2,5/8 13/2,21/4"))

    def test_the_first_half_of_the_rim_at_its_least_corner(self):
        faces = faces_of([dots("0,0 9,-9 9,9"), dots("0,0 3,-1 3,1"), dots("0,0 4,2 4,3")])
        self.assertEqual(own_points(faces)[2], at("3/2", "-1"))
        self.assertEqual(row_of(faces.net(), faces.rings_at(2)[0])[:2], dots("0,0 3,1"))

    def test_several_corners_of_the_least_x(self):
        faces = faces_of([dots("0,0 4,0 4,9 0,9 0,6 3,5 0,3 2,2")])
        self.assertEqual(own_points(faces), [at(-1, 0), at(1, "1/2")])

    def test_other_parts_of_the_plan_do_not_count(self):
        one = plan_of([FORMS["hole"]])
        other = plan_of([[dots("5,5 9,5 9,9 1/4,9"), dots("3/2,3/2 7/4,3/2 7/4,7/4"), dots("-9,0 -8,0 -8,1")]])
        alone, both = Faces(Net(one)), Faces(Net(laid_over(one, other)))
        rows = {str([row_of(both.net(), ring) for ring in both.rings_at(f)]): f for f in range(1, both.many())}
        kept = 0
        for f in range(1, alone.many()):
            same = rows.get(str([row_of(alone.net(), ring) for ring in alone.rings_at(f)]))
            if same is not None:
                kept += 1
                self.assertEqual(own_point(both, same), own_point(alone, f))
        self.assertEqual(kept, 1)

    def test_of_the_outermost(self):
        for many in (0, 1, 4):
            self.assertEqual(own_point(Faces(Net((many, []))), 0), (0, 0, 1))
        self.assertEqual(own_point(faces_of([dots("1/2,1/3 2,0 2,1")]), 0), at("-1/2", "1/3"))
        self.assertEqual(own_point(faces_of([dots("-3,5 -3,7 2,1")]), 0), at(-4, 5))

    def test_narrow_faces(self):
        far = 10 ** 12
        faces = faces_of([[(0, 0, 1), (far, 1, 1), (far - 1, 1, 1)]])
        p = own_point(faces, 1)
        self.assertTrue(is_point(p))
        self.assertEqual(Ground(faces.net().plan()[1]).face(p), Ground(faces.net().plan()[1]).left(2))
        self.assertEqual(rounds_of(faces, 1), (1,))

    def test_of_all_forms(self):
        for plan in PLANS:
            faces = Faces(Net(plan))
            for f in range(1, faces.many()):
                self.assertEqual(own_point(faces, f), own_by(plan, faces.rings_at(f)))
            if plan[1]:
                x, y = place(corners_by(plan)[0])
                self.assertEqual(own_point(faces, 0), at(x - 1, y))

    def test_each_lies_in_its_face_and_on_no_piece(self):
        for plan in PLANS:
            faces, ground = Faces(Net(plan)), Ground(plan[1])
            for f, p in enumerate(own_points(faces)):
                self.assertTrue(ground.is_ground(p))
                self.assertTrue(is_point(p))
                rings = faces.rings_at(f)
                self.assertEqual(ground.face(p), ground.left(rings[0][0]) if rings else ground.outer())

    def test_numbers_of_no_face(self):
        for plan in PLANS[:12]:
            faces = Faces(Net(plan))
            for number in (-1, -2, faces.many(), faces.many() + 1, 10 ** 300 - 1):
                for ask in (own_point, rounds_of):
                    with self.assertRaises(NoFace) as caught:
                        ask(faces, number)
                    self.assertEqual(caught.exception.number, number)


class Rounds(unittest.TestCase):
    def test_by_hand(self):
        for layers, rounds in (([FORMS["square"]], [(0,), (1,)]), ([FORMS["turned about"]], [(0,), (-1,)]),
                               ([FORMS["twice round"]], [(0,), (2,)]), ([FORMS["bow"]], [(0,), (1,), (-1,)]),
                               ([FORMS["hole"]], [(0,), (1,), (0,)]), ([FORMS["within"]], [(0,), (1,), (2,)]),
                               ([FORMS["hole"], FORMS["within"]], [(0, 0), (1, 1), (0, 2)]),
                               ([FORMS["square"], [dots("9,9 10,9 10,10")]], [(0, 0), (1, 0), (0, 1)])):
            faces = faces_of(*layers)
            self.assertEqual([rounds_of(faces, f) for f in range(faces.many())], rounds)

    def test_without_pieces(self):
        for many in (0, 1, 4):
            self.assertEqual(rounds_of(Faces(Net((many, []))), 0), (0,) * many)

    def test_of_all_forms(self):
        for plan in PLANS:
            faces = Faces(Net(plan))
            for f, p in enumerate(own_points(faces)):
                self.assertEqual(rounds_of(faces, f), rounds_of_strokes(plan[0], plan[1], p))
            self.assertEqual(rounds_of(faces, 0), (0,) * plan[0])
