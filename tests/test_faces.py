import unittest
from fractions import Fraction

from plymap.errors import Endless, NoFace, PlyError
from plymap.faces import Faces
from plymap.net import Net
from plymap.plans import plan_of
from plymap.rings import parts_of, rings_of, row_of
from plymap.turns import round_sum
from tests.helper import FORMS, PARTS, Ground, as_fraction, at, corners_by, dots, ends_by, place, some_plans

PLANS = some_plans(91, 12)


def faces_of(*layers):
    return Faces(Net(plan_of(list(layers))))


def rows_at(faces, f):
    return [row_of(faces.net(), ring) for ring in faces.rings_at(f)]


def all_rows(faces):
    return [rows_at(faces, f) for f in range(faces.many())]


def asked(faces):
    net = faces.net()
    numbers = range(faces.many())
    return (net.plan(), faces.many(), [faces.rings_at(f) for f in numbers],
            [faces.face_at(h) for h in range(net.many())], [faces.area_at(f) for f in numbers[1:]])


class Rings(unittest.TestCase):
    def test_without_pieces(self):
        for many in (0, 1, 5):
            faces = Faces(Net((many, [])))
            self.assertEqual(faces.many(), 1)
            self.assertEqual(faces.rings_at(0), [])
            self.assertEqual(faces.net().plan(), (many, []))

    def test_of_a_square(self):
        faces = faces_of(FORMS["square"])
        self.assertEqual(faces.many(), 2)
        self.assertEqual(faces.rings_at(0), [[0, 4, 7, 3]])
        self.assertEqual(faces.rings_at(1), [[2, 6, 5, 1]])
        self.assertEqual([faces.face_at(h) for h in range(8)], [0, 1, 1, 0, 0, 1, 1, 0])

    def test_of_a_bow(self):
        faces = faces_of(FORMS["bow"])
        self.assertEqual([faces.rings_at(f) for f in range(3)], [[[0, 4, 8, 11, 7, 3]], [[2, 5, 1]], [[6, 10, 9]]])

    def test_a_part_within(self):
        faces = faces_of(FORMS["hole"])
        self.assertEqual(all_rows(faces), [[dots("0,0 0,4 4,4 4,0")],
                                           [dots("0,0 4,0 4,4 0,4"), dots("1,1 1,3 3,3 3,1")],
                                           [dots("1,1 3,1 3,3 1,3")]])

    def test_parts_within_parts(self):
        rows = all_rows(faces_of(PARTS["within and within"]))
        self.assertEqual([len(row) for row in rows], [1, 2, 2, 1])
        self.assertEqual([row[-1][0] for row in rows], [at(0, 0), at(1, 1), at("3/2", "3/2"), at("3/2", "3/2")])

    def test_parts_beside(self):
        rows = all_rows(faces_of(PARTS["two beside"]))
        self.assertEqual(rows, [[dots("0,0 0,1 1,1 1,0"), dots("3,1 4,2 4,0")], [dots("0,0 1,0 1,1 0,1")],
                                [dots("3,1 4,0 4,2")]])

    def test_coasts_that_hang_on_coasts(self):
        rows = all_rows(faces_of(PARTS["three above one another"]))
        self.assertEqual(rows[0], [dots("0,0 3,1 3,0"), dots("1,2 3,3 3,2"), dots("2,4 5,5 5,4")])
        rows = all_rows(faces_of(PARTS["three above one another within"]))
        self.assertEqual(rows[1], [dots("0,0 9,0 9,9 0,9"), dots("3,1 5,2 6,1"), dots("3,3 5,4 6,3"),
                                   dots("4,6 5,8 6,6")])
        self.assertEqual([len(row) for row in rows], [1, 4, 1, 1, 1])

    def test_many_coasts_that_hang_on_one_another(self):
        tower = [dots(f"{k},{3 * k} {k + 9},{3 * k} {k + 9},{3 * k + 1}") for k in range(300)]
        faces = faces_of(tower)
        self.assertEqual(faces.many(), 301)
        self.assertEqual([row[0] for row in rows_at(faces, 0)], [triangle[0] for triangle in tower])

    def test_coasts_above_corners_and_uprights(self):
        for name in ("one above the corner of another", "one above an upright side", "uprights", "fan"):
            faces = faces_of(PARTS[name])
            self.assertEqual([len(row) for row in all_rows(faces)][1:], [1] * (faces.many() - 1))
        faces = faces_of([dots("-9,-9 20,-9 20,20 -9,20")], PARTS["one above an upright side"])
        self.assertEqual([len(row) for row in all_rows(faces)], [1, 4, 1, 1, 1])

    def test_parts_touching_at_a_corner(self):
        self.assertEqual([len(row) for row in all_rows(faces_of(FORMS["corner on a corner"]))], [1, 1, 1])
        rows = all_rows(faces_of([dots("0,0 8,0 8,8 0,8"), dots("0,0 3,1 1,3")]))
        self.assertEqual(rows, [[dots("0,0 0,8 8,8 8,0")], [dots("0,0 1,3 3,1 0,0 8,0 8,8 0,8")],
                                [dots("0,0 3,1 1,3")]])
        rows = all_rows(faces_of(PARTS["within and touching the rim"]))
        self.assertEqual([len(row) for row in rows], [1, 1, 1, 1])

    def test_a_face_shut_in_by_parts_that_touch(self):
        ring = [dots("0,0 4,0 4,1 0,1"), dots("4,1 5,1 5,5 4,5"), dots("4,5 4,6 0,6 0,5"), dots("0,5 -1,5 -1,1 0,1")]
        faces = faces_of(ring)
        self.assertEqual(faces.many(), 6)
        inner = [f for f in range(1, 6) if dots("0,1 4,1 4,5 0,5") in rows_at(faces, f)]
        self.assertEqual([len(inner), faces.area_at(inner[0])], [1, (16, 1)])

    def test_a_rim_is_told_first(self):
        for plan in PLANS:
            faces = Faces(Net(plan))
            self.assertEqual([len(faces.rings_at(f)) > 0 for f in range(1, faces.many())], [True] * (faces.many() - 1))
            rims = [rows_at(faces, f)[0] for f in range(1, faces.many())]
            coasts = [row for f in range(faces.many()) for row in rows_at(faces, f)[f > 0:]]
            self.assertEqual([row for row in rims if round_sum(row)[0] <= 0], [])
            self.assertEqual([row for row in coasts if round_sum(row)[0] >= 0], [])
            self.assertEqual(len(coasts), len(parts_of(faces.net())))
            self.assertEqual({row[0] for row in coasts}, {part[0] for part in parts_of(faces.net())})

    def test_rings_in_their_row(self):
        for plan in PLANS:
            faces = Faces(Net(plan))
            rings = rings_of(faces.net())
            for f in range(faces.many()):
                coasts = faces.rings_at(f)[f > 0:]
                self.assertEqual(coasts, [ring for ring in rings if ring in coasts])
            rims = [faces.rings_at(f)[0] for f in range(1, faces.many())]
            self.assertEqual(rims, [ring for ring in rings if ring in rims])

    def test_each_half_has_one_face_at_its_left(self):
        for plan in PLANS:
            faces = Faces(Net(plan))
            told = {h: f for f in range(faces.many()) for ring in faces.rings_at(f) for h in ring}
            self.assertEqual(told, {h: faces.face_at(h) for h in range(2 * len(plan[1]))})
            self.assertEqual(sum([len(ring) for f in range(faces.many()) for ring in faces.rings_at(f)]), len(told))

    def test_faces_are_the_grounds_that_pieces_part(self):
        for plan in PLANS:
            faces, ground = Faces(Net(plan)), Ground(plan[1])
            named = {}
            for h in range(2 * len(plan[1])):
                named.setdefault(faces.face_at(h), set()).add(ground.left(h))
            self.assertEqual([len(names) for names in named.values()], [1] * len(named))
            self.assertEqual(len({name for names in named.values() for name in names}), len(named))
            self.assertEqual(len(named), faces.many() if plan[1] else 0)
            self.assertEqual(named.get(0, {ground.outer()}), {ground.outer()})

    def test_the_numbers_follow_the_least_corners(self):
        for plan in PLANS:
            faces = Faces(Net(plan))
            ends = ends_by(plan)
            least = []
            for f in range(1, faces.many()):
                halves = [ends[h] for h in range(len(ends)) if faces.face_at(h) == f]
                least.append(min([place(start) for start, end in halves]))
            self.assertEqual(least, sorted(least))

    def test_both_sides_of_a_piece_are_never_one_face(self):
        for plan in PLANS:
            faces = Faces(Net(plan))
            self.assertEqual([k for k in range(len(plan[1])) if faces.face_at(2 * k) == faces.face_at(2 * k + 1)], [])


class Refused(unittest.TestCase):
    def test_numbers_of_no_face(self):
        for plan in PLANS[:12]:
            faces = Faces(Net(plan))
            for number in (-1, -2, faces.many(), faces.many() + 1, 10 ** 300 - 1, 1 - 10 ** 300):
                for ask in (faces.rings_at, faces.area_at):
                    with self.assertRaises(NoFace) as caught:
                        ask(number)
                    self.assertEqual(caught.exception.number, number)
                    self.assertIsInstance(caught.exception, PlyError)

    def test_the_outermost_has_no_area(self):
        for plan in PLANS[:12]:
            with self.assertRaises(Endless):
                Faces(Net(plan)).area_at(0)

    def test_what_is_refused_changes_nothing(self):
        faces = faces_of(FORMS["hole"])
        first = asked(faces)
        for number in (-1, 0, 3):
            with self.assertRaises(PlyError):
                faces.area_at(number)
        self.assertEqual(asked(faces), first)


class Areas(unittest.TestCase):
    def test_by_hand(self):
        for name, areas in (("square", [16]), ("turned about", [16]), ("twice round", [16]), ("bow", [1, 1]),
                            ("spike", [16]), ("hole", [12, 4]), ("side by side", [32]), ("corner on a side", [16, 2]),
                            ("corner on a corner", [16, 2]), ("there and back", [])):
            faces = faces_of(FORMS[name])
            self.assertEqual([faces.area_at(f) for f in range(1, faces.many())], [(area, 1) for area in areas], name)

    def test_parts_by_hand(self):
        for name, areas in (("within and within", [12, 3, 1]), ("two beside", [1, 1]), ("two within", [78, 1, 2]),
                            ("comb", [34])):
            faces = faces_of(PARTS[name])
            self.assertEqual([faces.area_at(f) for f in range(1, faces.many())], [(area, 1) for area in areas], name)

    def test_fractions(self):
        faces = faces_of([dots("0,0 1/3,0 0,1/5")])
        self.assertEqual(faces.area_at(1), (1, 30))
        faces = faces_of([dots("0,0 1,0 0,1")], [dots("0,0 1,0 1,1")])
        self.assertEqual([faces.area_at(f) for f in (1, 2, 3)], [(1, 4), (1, 4), (1, 4)])

    def test_half_the_round_sums_of_its_rings(self):
        for plan in PLANS:
            faces = Faces(Net(plan))
            for f in range(1, faces.many()):
                total = sum([as_fraction(round_sum(row)) for row in rows_at(faces, f)], Fraction(0))
                self.assertEqual(as_fraction(faces.area_at(f)), total / 2)
                self.assertGreater(total, 0)

    def test_all_faces_and_the_coasts_without(self):
        for plan in PLANS:
            faces = Faces(Net(plan))
            total = sum([as_fraction(faces.area_at(f)) for f in range(1, faces.many())], Fraction(0))
            around = sum([as_fraction(round_sum(row)) for row in rows_at(faces, 0)], Fraction(0))
            self.assertEqual(total, -around / 2)

    def test_large(self):
        far = 10 ** 12
        faces = faces_of([[(-far, -far, 1), (far, -far, 1), (far, far, 1), (-far, far, 1)]])
        self.assertEqual(faces.area_at(1), (4 * far * far, 1))


class Kept(unittest.TestCase):
    def test_a_net_of_the_same_plan(self):
        for plan in PLANS:
            net = Net(plan)
            told = Faces(net).net()
            self.assertIsInstance(told, Net)
            self.assertEqual([told.plan(), told.corners()], [plan, corners_by(plan)])
            self.assertEqual(rings_of(told), rings_of(net))

    def test_the_same_is_told_again(self):
        plan = plan_of([FORMS["hole"], FORMS["bow"]])
        handed = (plan[0], list(plan[1]))
        net = Net(handed)
        faces = Faces(net)
        first = asked(faces)
        handed[1].clear()
        net.plan()[1].clear()
        net.corners().clear()
        told = faces.rings_at(1)
        told[0].clear()
        told.clear()
        faces.net().plan()[1].clear()
        faces.net().corners().clear()
        self.assertEqual(asked(faces), first)
        self.assertEqual(net.plan(), plan)

    def test_told_lists_are_new_ones(self):
        faces = faces_of(FORMS["hole"])
        self.assertIsNot(faces.rings_at(1), faces.rings_at(1))
        self.assertIsNot(faces.rings_at(1)[0], faces.rings_at(1)[0])

    def test_two_know_nothing_of_one_another(self):
        one, other = faces_of(FORMS["hole"]), faces_of(FORMS["bow"])
        self.assertEqual(asked(one), asked(faces_of(FORMS["hole"])))
        self.assertEqual(asked(other), asked(faces_of(FORMS["bow"])))
