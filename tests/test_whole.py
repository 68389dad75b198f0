"""What holds of all layers: the plan shows their rounds, and hangs on these alone."""

import unittest

from plymap.layers import layer_of, rounds_about
from plymap.plans import is_plan, laid_over, plan_of, rounds_under
from tests.helper import (at, chance_of, dots, faults_of, grid_ring, is_on, place, ring_sides, samples, some_point,
                          star, winding)

FAR = 10 ** 12
FINE = 10 ** 6
SQUARE = dots("0,0 4,0 4,4 0,4")
FORMS = {
    "square": [SQUARE],
    "turned about": [SQUARE[::-1]],
    "twice round": [SQUARE + SQUARE],
    "bow": [dots("0,0 2,2 2,0 0,2")],
    "there and back": [dots("0,0 3,1 6,2")],
    "spike": [dots("0,0 4,0 4,4 7,7 4,4 0,4")],
    "spike within": [dots("0,0 4,0 4,4 2,2 4,4 0,4")],
    "hole": [SQUARE, dots("1,1 1,3 3,3 3,1")],
    "within": [SQUARE, dots("1,1 3,1 3,3 1,3")],
    "side by side": [SQUARE, dots("4,0 8,0 8,4 4,4")],
    "partly side by side": [SQUARE, dots("4,1 8,1 8,3 4,3")],
    "corner on a side": [SQUARE, dots("4,2 6,1 6,3")],
    "corner on a corner": [SQUARE, dots("4,4 6,4 6,6")],
    "own corner again": [dots("0,0 2,0 1,1 2,2 0,2 1,1")],
    "star": [star((0, 0), 1, 1, 5)],
    "many through one point": [dots("-2,-2 2,2 2,-2 -2,2"), dots("0,-3 0,3 3,0 -3,0")],
    "overlap on a slant": [dots("0,0 6,2 0,6"), dots("3,1 9,3 0,9")],
    "bounds": [[(-FAR, -FAR, 1), (FAR, -FAR, 1), (FAR, FAR, 1), (1, 1, FINE)],
               [(FAR, -FAR + 1, FINE - 1), (FAR - 1, FAR, FINE), (-FAR, 3, 7)]],
}


def begun_elsewhere(chance, rings):
    k = chance.randrange(len(rings[0]))
    return [rings[0][k:] + rings[0][:k]] + rings[1:]


def point_on_a_side(chance, rings):
    ring = rings[-1]
    k = chance.randrange(len(ring))
    (xp, yp), (xq, yq) = place(ring[k - 1]), place(ring[k])
    part = chance.randrange(1, 7)
    z = at(xp + (xq - xp) * part / 7, yp + (yq - yp) * part / 7)
    return rings[:-1] + [ring[:k] + [z] + ring[k:]]


def way_there_and_back(chance, rings):
    ring = rings[0]
    k = chance.randrange(len(ring))
    aside = some_point(chance)
    return [ring[:k] + [ring[k], aside] + ring[k:]] + rings[1:] if aside != ring[k] else rings


def side_there_back_and_there(chance, rings):
    ring = rings[0]
    k = chance.randrange(1, len(ring))
    return [ring[:k + 1] + ring[k - 1:]] + rings[1:]


def parted_by_a_chord(chance, rings):
    ring = rings[0]
    k = chance.randrange(1, len(ring))
    if ring[0] == ring[k]:
        return rings
    return [ring[:k + 1], ring[k:] + ring[:1]] + rings[1:]


def another_row(chance, rings):
    return chance.sample(rings, len(rings))


def ring_and_its_like_turned(chance, rings):
    ring = grid_ring(chance, 5)
    return [ring] + rings + [ring[::-1]]


def ring_of_two_points(chance, rings):
    return rings + [dots("1,2 5,1")]


OTHERWISE = [begun_elsewhere, point_on_a_side, way_there_and_back, side_there_back_and_there, parted_by_a_chord,
             another_row, ring_and_its_like_turned, ring_of_two_points]


def many_layers():
    chance = chance_of(51)
    found = list(FORMS.values())
    for number in range(12):
        found.append([grid_ring(chance, 6, 4) for ring in range(number % 4 + 1)])
    return found


class Whole(unittest.TestCase):
    def check(self, layers, step=1):
        plan = plan_of(layers)
        self.assertEqual(faults_of(plan), [])
        self.assertIs(is_plan(plan), True)
        sides = [side for rings in layers for side in ring_sides(rings)]
        for p in samples(sides)[::step]:
            rounds = rounds_under(plan, p)
            self.assertEqual(rounds, tuple([rounds_about(rings, p) for rings in layers]))
            if not any([is_on(p, u, v) for u, v in sides]):
                self.assertEqual(rounds, tuple([winding(rings, p) for rings in layers]))

    def test_each_form(self):
        for rings in FORMS.values():
            self.assertEqual(layer_of(rings), rings)
            self.check([rings])

    def test_forms_over_one_another(self):
        forms = list(FORMS.values())
        for k in range(len(forms)):
            self.check([forms[k], forms[k - 1], forms[k - 5]], 11)

    def test_rings_by_chance(self):
        chance = chance_of(52)
        for number in range(12):
            self.check([[grid_ring(chance, 7, 4)], [grid_ring(chance, 5, 3), grid_ring(chance, 4, 5)]], 5)

    def test_drawn_otherwise(self):
        chance = chance_of(53)
        for rings in many_layers():
            plan = plan_of([rings])
            for change in OTHERWISE:
                for number in range(3):
                    self.assertEqual(plan_of([change(chance, rings)]), plan, change.__name__)

    def test_drawn_otherwise_several_times(self):
        chance = chance_of(54)
        for rings in many_layers():
            other = rings
            for number in range(6):
                other = chance.choice(OTHERWISE)(chance, other)
            self.assertEqual(plan_of([other]), plan_of([rings]))
            self.assertEqual(plan_of([rings, other]), plan_of([other, rings]))

    def test_unlike_rounds_make_unlike_plans(self):
        plans = [plan_of([rings]) for rings in FORMS.values()]
        square = [name for name, plan in zip(FORMS, plans) if plan == plan_of([[SQUARE]])]
        self.assertEqual(square, ["square", "spike", "spike within"])
        self.assertEqual([name for name, plan in zip(FORMS, plans) if plan == (1, [])], ["there and back"])

    def test_laid_over_is_drawn_at_once(self):
        forms = list(FORMS.values())
        for k in range(len(forms)):
            one, other, third = plan_of([forms[k]]), plan_of([forms[k - 1]]), plan_of([forms[k - 7]])
            at_once = plan_of([forms[k], forms[k - 1], forms[k - 7]])
            self.assertEqual(laid_over(laid_over(one, other), third), at_once)
            self.assertEqual(laid_over(one, laid_over(other, third)), at_once)
