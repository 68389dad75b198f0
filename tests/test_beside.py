import unittest

from plymap.beside import beside_of
from plymap.faces import Faces
from plymap.net import Net
from plymap.places import place_of
from plymap.plans import plan_of
from plymap.points import is_point, middle_of
from tests.helper import FORMS, PARTS, at, dots, lean, place, shared_by, some_plans

FAR = 10 ** 12
FINE = 10 ** 6
PLANS = some_plans(121, 10)


def is_square(p, q, m, z):
    """Whether the line from m to z is square to that from p to q."""
    (xp, yp), (xq, yq), (xm, ym), (xz, yz) = place(p), place(q), place(m), place(z)
    return (xq - xp) * (xz - xm) + (yq - yp) * (yz - ym) == 0


class Beside(unittest.TestCase):
    def check(self, plan, step=1):
        net = Net(plan)
        for h in range(net.many())[::step]:
            told = beside_of(net, h)
            p, q = net.start(h), net.end(h)
            m = middle_of(p, q)
            self.assertTrue(is_point(told))
            self.assertEqual(lean(p, q, told), 1)
            self.assertTrue(is_square(p, q, m, told))
            for k, (a, b, passes) in enumerate(plan[1]):
                self.assertEqual(shared_by(m, told, a, b), (m,) if k == h // 2 else ())

    def test_of_a_square(self):
        self.check(plan_of([FORMS["square"]]))

    def test_pieces_of_other_parts_near_by(self):
        for near in ("2,1/1000 5/2,1/500 3/2,1/500", "2,-1/1000 3,-1 1,-1", "2,1/9 2,1/8 1,1/9", "2,1/9 2,1/8 3,1/9",
                     "2,1/9 2,4/3 3,1", "0,1/100 4,1/100 4,1", "2,2 3,3 1,3", "1,2 3,2 3,3", "2,4/3 2,3 3,3"):
            self.check(plan_of([FORMS["square"], [dots(near)]]))

    def test_a_part_that_is_first_met_at_its_corner(self):
        plan = plan_of([[dots("0,0 4,0 4,9 0,9"), dots("2,1 3,2 1,2"), dots("2,3 3,4 1,4")]])
        net = Net(plan)
        half = [h for h in range(net.many()) if [net.start(h), net.end(h)] == dots("0,0 4,0")][0]
        self.assertTrue(0 < place(beside_of(net, half))[1] < 1)
        self.check(plan)

    def test_an_upright_piece_straight_ahead(self):
        self.check(plan_of([[dots("0,0 4,0 4,9 0,9"), dots("2,3 2,1 3,2")]]))
        self.check(plan_of([[dots("0,0 4,0 4,9 0,9"), dots("2,2 2,8 3,7")]]))

    def test_a_slanted_piece_straight_ahead(self):
        self.check(plan_of([[dots("0,0 4,4 -9,9"), dots("1,3 0,4 0,2")]]))

    def test_narrow_ground(self):
        self.check(plan_of([[dots("0,0 1000000,1 1000000,2 0,1")]]))
        self.check(plan_of([PARTS["sliver"]]))
        self.check(plan_of([[[at(0, 0), at(FAR, 1), at(FAR - 1, 1)]]]))

    def test_numbers_at_the_bounds(self):
        self.check(plan_of([FORMS["bounds"]]))
        self.check(plan_of([[[(FAR - k, FAR, FINE) for k in (1, 9)] + [(-FAR, -FAR, FINE - 1)]],
                            [[(-FAR, FAR, 1), (FAR, FAR - 1, 1), (1, 1, FINE)]]]))

    def test_many_figures(self):
        far = 10 ** 300 - 1
        plan = (1, [((0, 0, 1), (1, far, 1), (-1,)), ((0, 0, 1), (far, 1, 1), (1,)), ((1, far, 1), (far, 1, 1), (-1,))])
        self.check(plan)

    def test_of_all_forms(self):
        for plan in PLANS:
            self.check(plan, 1 + len(plan[1]) // 25)

    def test_it_lies_in_the_face_at_the_left(self):
        for plan in PLANS:
            faces = Faces(Net(plan))
            for h in range(2 * len(plan[1]))[::1 + len(plan[1]) // 25]:
                self.assertEqual(place_of(faces, beside_of(faces.net(), h)), ("face", faces.face_at(h)))

    def test_asked_again(self):
        net, other = Net(plan_of([FORMS["hole"]])), Net(plan_of([FORMS["bow"]]))
        first = [beside_of(net, h) for h in range(8)]
        net.plan()[1].clear()
        turns = [(beside_of(net, h), beside_of(other, h)) for h in range(8)]
        self.assertEqual([one for one, two in turns], first)
        self.assertEqual([two for one, two in turns], [beside_of(Net(plan_of([FORMS["bow"]])), h) for h in range(8)])
