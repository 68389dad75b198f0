import unittest

from plymap.faces import Faces
from plymap.net import Net
from plymap.own import own_point
from plymap.places import place_of
from plymap.plans import plan_of
from tests.helper import (FORMS, PARTS, Ground, at, chance_of, corners_by, dots, is_on, points_about, samples,
                          some_plans)

PLANS = some_plans(111, 12)
FAR = 10 ** 300 - 1


def faces_of(*layers):
    return Faces(Net(plan_of(list(layers))))


class Places(unittest.TestCase):
    def lies(self, faces, points, *told):
        for p in dots(points):
            self.assertEqual(place_of(faces, p), told)

    def test_without_pieces(self):
        for many in (0, 1, 4):
            for p in (at(0, 0), at(3, -7), (FAR, -FAR, 1), (1, -1, FAR)):
                self.assertEqual(place_of(Faces(Net((many, []))), p), ("face", 0))

    def test_corners(self):
        faces = faces_of(FORMS["bow"])
        for number, p in enumerate(dots("0,0 0,2 1,1 2,0 2,2")):
            self.assertEqual(place_of(faces, p), ("corner", number))

    def test_pieces(self):
        faces = faces_of(FORMS["bow"])
        self.lies(faces, "0,1 0,1/7 0,13/7", "piece", 0)
        self.lies(faces, "1/2,1/2 1/9,1/9", "piece", 1)
        self.lies(faces, "1/2,3/2 8/9,10/9", "piece", 2)
        self.lies(faces, "3/2,1/2", "piece", 3)
        self.lies(faces, "3/2,3/2", "piece", 4)
        self.lies(faces, "2,1", "piece", 5)

    def test_level_upright_and_slanted_pieces(self):
        faces = faces_of([dots("0,0 4,0 4,4 1,7")])
        self.lies(faces, "1/2,7/2", "piece", 0)
        self.lies(faces, "1,0 2,0 1/5,0", "piece", 1)
        self.lies(faces, "2,6 3,5", "piece", 2)
        self.lies(faces, "4,1 4,2 4,39/10", "piece", 3)

    def test_faces(self):
        faces = faces_of(FORMS["bow"])
        self.lies(faces, "1/2,1 1/9,1 1/9,1/3", "face", 1)
        self.lies(faces, "3/2,1 19/10,1 19/10,17/10", "face", 2)
        self.lies(faces, "1,0 1,2 1,3/2 1,1/2 0,-1 0,3 2,-1 2,3 -1,1 3,1 -1,0 3,2 99,99", "face", 0)

    def test_faces_within_faces(self):
        faces = faces_of(PARTS["within and within"])
        self.lies(faces, "1/2,1/2 1/2,2 2,1/2 7/2,2 2,7/2 1,1/2 1,7/2 3,1/2 1/2,1 1/2,3 3,7/2", "face", 1)
        self.lies(faces, "5/4,5/4 2,5/4 5/4,2 11/4,2 2,11/4 3/2,5/4 3/2,11/4 5/2,11/4", "face", 2)
        self.lies(faces, "2,2 7/4,9/4", "face", 3)
        self.lies(faces, "-1,2 5,2 2,-1 2,5 1,5 3,5 3/2,5", "face", 0)

    def test_straight_above_and_below_corners(self):
        faces = faces_of(PARTS["three above one another within"])
        self.lies(faces, "3,1/2 3,2 3,4 4,5 5,5/2 6,2 6,5 6,7 5,17/2", "face", 1)
        self.lies(faces, "5,3/2", "face", 2)
        self.lies(faces, "5,7/2", "face", 3)
        self.lies(faces, "5,7", "face", 4)
        faces = faces_of(PARTS["uprights"])
        self.lies(faces, "0,-1 0,2 0,10 1,-1 1,5/2 2,3 3,2 3,-1", "face", 0)

    def test_coasts_hide_what_lies_below_them(self):
        faces = faces_of([dots("0,0 9,0 9,9 0,9")], [dots("2,2 7,2 7,4 2,4")], [dots("3,5 6,5 6,7 3,7")])
        self.lies(faces, "4,9/2 4,8 4,1 2,8 3,9/2 7,5", "face", 1)
        self.lies(faces, "4,3", "face", 2)
        self.lies(faces, "4,6", "face", 3)

    def test_far_and_near(self):
        faces = faces_of(FORMS["square"])
        for p, told in (((FAR, FAR, 1), ("face", 0)), ((2, FAR, 1), ("face", 0)), ((2, -FAR, 1), ("face", 0)),
                        ((1, 1, FAR), ("face", 1)), ((1, 0, FAR), ("piece", 1)), ((0, 1, FAR), ("piece", 0)),
                        ((1, -1, FAR), ("face", 0)), ((-1, 1, FAR), ("face", 0)), ((-1, 0, FAR), ("face", 0)),
                        ((4 * FAR - 1, 4 * FAR - 1, FAR), ("face", 1)), ((4 * FAR + 1, 4 * FAR, FAR), ("face", 0)),
                        ((4 * FAR, 4 * FAR + 1, FAR), ("face", 0)), ((4 * FAR, 4 * FAR - 1, FAR), ("piece", 3)),
                        ((4 * FAR - 1, 4 * FAR, FAR), ("piece", 2))):
            self.assertEqual(place_of(faces, p), told)

    def test_own_points_lie_in_their_faces(self):
        for plan in PLANS:
            faces = Faces(Net(plan))
            for f in range(faces.many()):
                self.assertEqual(place_of(faces, own_point(faces, f)), ("face", f))

    def test_of_all_forms(self):
        chance = chance_of(112)
        for plan in PLANS:
            faces, ground, corners = Faces(Net(plan)), Ground(plan[1]), corners_by(plan)
            rings = [faces.rings_at(f) for f in range(faces.many())]
            names = [ground.left(row[0][0]) if row else ground.outer() for row in rings]
            points = samples([piece[:2] for piece in plan[1]], 1 + len(plan[1]) // 12)[::1 + len(plan[1]) // 8]
            for p in points + points_about(chance, plan, 12) + corners:
                on = [k for k, (a, b, passes) in enumerate(plan[1]) if is_on(p, a, b)]
                if p in corners:
                    self.assertEqual(place_of(faces, p), ("corner", corners.index(p)))
                elif on:
                    self.assertEqual(place_of(faces, p), ("piece", on[0]))
                else:
                    self.assertEqual(place_of(faces, p), ("face", names.index(ground.face(p))))

    def test_two_plans_by_turns(self):
        one, other = faces_of(FORMS["hole"]), faces_of(FORMS["bow"])
        points = dots("0,0 1,1 2,2 1/2,1/2 2,1 3/2,1")
        alone = [[place_of(faces, p) for p in points] for faces in (one, other)]
        turns = [(place_of(one, p), place_of(other, p)) for p in points]
        self.assertEqual(turns, list(zip(*alone)))

    def test_what_is_told_of_the_net_may_be_changed(self):
        faces = faces_of(FORMS["hole"])
        points = dots("0,0 1,1 2,2 1/2,1/2 2,1 3/2,1")
        first = [place_of(faces, p) for p in points]
        faces.net().plan()[1].clear()
        faces.net().corners().clear()
        self.assertEqual([place_of(faces, p) for p in points], first)
