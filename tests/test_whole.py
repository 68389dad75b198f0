"""What holds of all layers: the plan shows their rounds, and hangs on these alone; its faces and their rings; ways
and what they cross."""

import unittest
from fractions import Fraction

from plymap.atlas import Atlas
from plymap.crossings import fewest
from plymap.faces import Faces
from plymap.layers import layer_of, rounds_about
from plymap.net import Net
from plymap.own import own_point, rounds_of
from plymap.places import place_of
from plymap.plans import is_plan, laid_over, plan_of, rounds_under
from plymap.rings import row_of
from plymap.turns import round_sum
from plymap.ways import between
from tests.helper import (FORMS, PARTS, SQUARE, Ground, as_fraction, at, chance_of, dots, faults_between, faults_of,
                          grid_ring, is_on, place, points_about, ring_sides, samples, shared_by, some_point,
                          winding)


def begun_elsewhere(chance, rings):
    k = chance.randrange(len(rings[0]))
    return [rings[0][k:] + rings[0][:k]] + rings[1:]


def point_on_a_side(chance, rings):
    ring = rings[-1]
    k = chance.randrange(len(ring))
    (xp, yp), (xq, yq) = place(ring[k - 1]), place(ring[k])
    part = chance.randrange(1, 7)
    z = at(xp + (xq - xp) * part / 7, yp + (yq - yp) * part / 7)
    return rings[:-1] + [ring[:k] + [z] + ring[k:]]


def way_there_and_back(chance, rings):
    ring = rings[0]
    k = chance.randrange(len(ring))
    aside = some_point(chance)
    return [ring[:k] + [ring[k], aside] + ring[k:]] + rings[1:] if aside != ring[k] else rings


def side_there_back_and_there(chance, rings):
    ring = rings[0]
    k = chance.randrange(1, len(ring))
    return [ring[:k + 1] + ring[k - 1:]] + rings[1:]


def parted_by_a_chord(chance, rings):
    ring = rings[0]
    k = chance.randrange(1, len(ring))
    if ring[0] == ring[k]:
        return rings
    return [ring[:k + 1], ring[k:] + ring[:1]] + rings[1:]


def another_row(chance, rings):
    return chance.sample(rings, len(rings))


def ring_and_its_like_turned(chance, rings):
    ring = grid_ring(chance, 5)
    return [ring] + rings + [ring[::-1]]


def ring_of_two_points(chance, rings):
    return rings + [dots("1,2 5,1")]


OTHERWISE = [begun_elsewhere, point_on_a_side, way_there_and_back, side_there_back_and_there, parted_by_a_chord,
             another_row, ring_and_its_like_turned, ring_of_two_points]


def many_layers():
    chance = chance_of(51)
    found = list(FORMS.values())
    for number in range(12):
        found.append([grid_ring(chance, 6, 4) for ring in range(number % 4 + 1)])
    return found


class Whole(unittest.TestCase):
    def check(self, layers, step=1):
        plan = plan_of(layers)
        self.assertEqual(faults_of(plan), [])
        self.assertIs(is_plan(plan), True)
        sides = [side for rings in layers for side in ring_sides(rings)]
        for p in samples(sides)[::step]:
            rounds = rounds_under(plan, p)
            self.assertEqual(rounds, tuple([rounds_about(rings, p) for rings in layers]))
            if not any([is_on(p, u, v) for u, v in sides]):
                self.assertEqual(rounds, tuple([winding(rings, p) for rings in layers]))

    def test_each_form(self):
        for rings in FORMS.values():
            self.assertEqual(layer_of(rings), rings)
            self.check([rings])

    def test_forms_over_one_another(self):
        forms = list(FORMS.values())
        for k in range(len(forms)):
            self.check([forms[k], forms[k - 1], forms[k - 5]], 11)

    def test_rings_by_chance(self):
        chance = chance_of(52)
        for number in range(12):
            self.check([[grid_ring(chance, 7, 4)], [grid_ring(chance, 5, 3), grid_ring(chance, 4, 5)]], 5)

    def test_drawn_otherwise(self):
        chance = chance_of(53)
        for rings in many_layers():
            plan = plan_of([rings])
            for change in OTHERWISE:
                for number in range(3):
                    self.assertEqual(plan_of([change(chance, rings)]), plan, change.__name__)

    def test_drawn_otherwise_several_times(self):
        chance = chance_of(54)
        for rings in many_layers():
            other = rings
            for number in range(6):
                other = chance.choice(OTHERWISE)(chance, other)
            self.assertEqual(plan_of([other]), plan_of([rings]))
            self.assertEqual(plan_of([rings, other]), plan_of([other, rings]))

    def test_unlike_rounds_make_unlike_plans(self):
        plans = [plan_of([rings]) for rings in FORMS.values()]
        square = [name for name, plan in zip(FORMS, plans) if plan == plan_of([[SQUARE]])]
        self.assertEqual(square, ["square", "spike", "spike within"])
        self.assertEqual([name for name, plan in zip(FORMS, plans) if plan == (1, [])], ["there and back"])

    def test_laid_over_is_drawn_at_once(self):
        forms = list(FORMS.values())
        for k in range(len(forms)):
            one, other, third = plan_of([forms[k]]), plan_of([forms[k - 1]]), plan_of([forms[k - 7]])
            at_once = plan_of([forms[k], forms[k - 1], forms[k - 7]])
            self.assertEqual(laid_over(laid_over(one, other), third), at_once)
            self.assertEqual(laid_over(one, laid_over(other, third)), at_once)


def some_layers(seed, many):
    """Lists of layers: each form alone, forms over one another, rings by chance."""
    chance = chance_of(seed)
    forms = list(FORMS.values()) + list(PARTS.values())
    found = [[rings] for rings in forms]
    found.extend([[forms[k], forms[k - 3], forms[k - 8]] for k in range(0, len(forms), 3)])
    for number in range(many):
        found.append([[grid_ring(chance, 5, 5) for ring in range(number % 2 + 1)] for layer in range(number % 3 + 1)])
    return found


class Parted(unittest.TestCase):
    def test_left_of_a_piece_and_right_of_it(self):
        for layers in some_layers(55, 9):
            plan = plan_of(layers)
            faces = Faces(Net(plan))
            rounds = [rounds_of(faces, f) for f in range(faces.many())]
            for k, (a, b, passes) in enumerate(plan[1]):
                left, right = faces.face_at(2 * k), faces.face_at(2 * k + 1)
                self.assertNotEqual(left, right)
                self.assertEqual(tuple([one - other for one, other in zip(rounds[left], rounds[right])]), passes)

    def test_rounds_of_a_face_are_those_of_its_layers(self):
        for layers in some_layers(56, 9):
            faces = Faces(Net(plan_of(layers)))
            for f in range(faces.many()):
                p = own_point(faces, f)
                self.assertEqual(rounds_of(faces, f), tuple([winding(rings, p) for rings in layers]))

    def test_rings_of_a_face_about_each_own_point(self):
        for layers in some_layers(57, 6):
            faces = Faces(Net(plan_of(layers)))
            points = [own_point(faces, f) for f in range(faces.many())]
            for f in range(faces.many())[::1 + faces.many() // 40]:
                rows = [row_of(faces.net(), ring) for ring in faces.rings_at(f)]
                for g, p in list(enumerate(points))[::1 + faces.many() // 40]:
                    self.assertEqual(winding(rows, p), int(f == g) if f > 0 else int(f == g) - 1)

    def test_rings_of_a_face_about_points_of_all_sorts(self):
        for layers in some_layers(58, 3):
            plan = plan_of(layers)
            faces, ground = Faces(Net(plan)), Ground(plan[1])
            rows = [[row_of(faces.net(), ring) for ring in faces.rings_at(f)] for f in range(faces.many())]
            names = [ground.left(faces.rings_at(f)[0][0]) if rows[f] else ground.outer() for f in range(faces.many())]
            points = samples([piece[:2] for piece in plan[1]], 1 + len(plan[1]) // 9)[::1 + len(plan[1]) // 9]
            for p in [p for p in points if ground.is_ground(p)]:
                here = names.index(ground.face(p))
                told = [rounds_about(row, p) for row in rows]
                self.assertEqual(told[0], -1 if here else 0)
                self.assertEqual(told[1:], [int(f == here) for f in range(1, faces.many())])

    def test_rounds_times_areas(self):
        for layers in some_layers(59, 9):
            faces = Faces(Net(plan_of(layers)))
            sums = [Fraction(0)] * len(layers)
            for f in range(1, faces.many()):
                area = as_fraction(faces.area_at(f))
                sums = [number + rounds * area for number, rounds in zip(sums, rounds_of(faces, f))]
            self.assertEqual(sums, [sum([as_fraction(round_sum(ring)) for ring in rings]) / 2 for rings in layers])

    def test_way_or_ring(self):
        chance = chance_of(60)
        kinds = {"way": 0, "ring": 0}
        for layers in some_layers(61, 9):
            plan = plan_of(layers)
            faces, ground = Faces(Net(plan)), Ground(plan[1])
            points = [p for p in points_about(chance, plan, 12) if ground.is_ground(p)]
            points.extend([own_point(faces, f) for f in range(faces.many())[::1 + faces.many() // 9]])
            mixed = chance.sample(points, len(points))
            for p, q in zip(points, mixed):
                told = between(faces, p, q)
                self.assertEqual(faults_between(plan, ground, p, q, told), [])
                self.assertEqual(told[0] == "way", place_of(faces, p) == place_of(faces, q))
                kinds[told[0]] += 1
        self.assertGreater(min(kinds.values()), 100)


def crossed_by(pieces, row):
    """How many pieces a row of points crosses, None where it meets a corner, has its own point on a piece or goes
    along one."""
    number = 0
    for u, v in zip(row, row[1:]):
        for a, b, passes in pieces:
            shared = shared_by(u, v, a, b)
            if len(shared) > 1 or any([z in (a, b, u, v) for z in shared]):
                return None
            number += len(shared)
    return number


class Crossed(unittest.TestCase):
    def test_no_way_crosses_fewer(self):
        chance = chance_of(62)
        seen = {}
        for number in range(10):
            atlas = Atlas()
            for name in "abc":
                atlas.put(name, [grid_ring(chance, 6, 6)])
            pieces = atlas.plan()[1]
            for asking in range(6):
                row = [some_point(chance) for step in range(2)]
                if "face" != atlas.place_at(row[0])[0] or "face" != atlas.place_at(row[1])[0] or row[0] == row[1]:
                    continue
                least = fewest(atlas, row[0], row[1])[0]
                for drawn in range(12):
                    between_them = [some_point(chance) for step in range(drawn % 3)]
                    way = row[:1] + between_them + row[1:]
                    if any([p == q for p, q in zip(way, way[1:])]):
                        continue
                    told = crossed_by(pieces, way)
                    if told is not None:
                        self.assertGreaterEqual(told, least)
                        seen[told - least] = seen.get(told - least, 0) + 1
        self.assertGreater(seen[0], 20)
        self.assertGreater(len(seen), 5)
