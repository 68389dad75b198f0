import unittest

from plymap.faces import Faces
from plymap.net import Net
from plymap.own import rounds_of
from plymap.plans import plan_of
from plymap.steps import halves_to, heights_from, passes_along, rounds_of_all, steps_from
from tests.helper import FORMS, PARTS, some_plans

PLANS = some_plans(141, 9)


def faces_of(*layers):
    return Faces(Net(plan_of(list(layers))))


class Steps(unittest.TestCase):
    def test_rounds_are_those_under_the_own_points(self):
        for plan in PLANS:
            faces = Faces(Net(plan))
            self.assertEqual(rounds_of_all(faces), [rounds_of(faces, f) for f in range(faces.many())])

    def test_of_no_pieces(self):
        for many in (0, 1, 4):
            faces = Faces(Net((many, [])))
            self.assertEqual(steps_from(faces, 0), {0: None})
            self.assertEqual(rounds_of_all(faces), [(0,) * many])

    def test_each_face_is_reached(self):
        for plan in PLANS:
            faces = Faces(Net(plan))
            for first in range(faces.many())[::7]:
                self.assertEqual(sorted(steps_from(faces, first)), list(range(faces.many())))

    def test_heights_beside_each_piece(self):
        for plan in PLANS:
            faces = Faces(Net(plan))
            for first in range(faces.many())[::7]:
                steps = steps_from(faces, first)
                heights = heights_from(faces, steps)
                self.assertEqual([f for f in heights if heights[f] == 0], [first])
                for k in range(len(plan[1])):
                    self.assertLessEqual(abs(heights[faces.face_at(2 * k)] - heights[faces.face_at(2 * k + 1)]), 1)

    def test_halves_lead_there(self):
        for plan in PLANS:
            faces = Faces(Net(plan))
            steps = steps_from(faces, 0)
            heights = heights_from(faces, steps)
            for last in range(faces.many()):
                face = 0
                halves = halves_to(faces, steps, last)
                for half in halves:
                    self.assertEqual(faces.face_at(half), face)
                    face = faces.face_at(half ^ 1)
                self.assertEqual([face, len(halves)], [last, heights[last]])

    def test_within_one_another(self):
        faces = faces_of(PARTS["within and within"])
        steps = steps_from(faces, 3)
        self.assertEqual(heights_from(faces, steps), {3: 0, 2: 1, 1: 2, 0: 3})
        self.assertEqual(len(halves_to(faces, steps, 0)), 3)

    def test_passes_along_a_half(self):
        pieces = plan_of([FORMS["square"], []])[1]
        self.assertEqual([passes_along(pieces, h) for h in range(4)], [(-1, 0), (1, 0), (1, 0), (-1, 0)])
