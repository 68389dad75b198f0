import unittest

from plymap.errors import BadLayer
from plymap.layers import layer_of, rounds_about, sides_of
from tests.helper import (Sore, at, chance_of, dots, goes_under, grid_ring, is_on, odd_things, ring_sides,
                          rounds_by_rule, samples, some_point, star, winding)

FAR = 10 ** 12
FINE = 10 ** 6
TRIANGLE = dots("0,0 4,0 0,4")
SQUARE = dots("0,0 2,0 2,2 0,2")
LONG = [at(k, k * k) for k in range(12)]


class Layers(unittest.TestCase):
    def refused(self, rings, ring, place):
        with self.assertRaises(BadLayer) as caught:
            layer_of(rings)
        self.assertEqual((caught.exception.ring, caught.exception.at), (ring, place))

    def test_good_ones(self):
        for rings in ([TRIANGLE], [LONG], [TRIANGLE] * 4, [LONG, TRIANGLE, SQUARE, LONG[::-1]],
                      [dots("0,0 1,1 0,0 1,1")], [dots("0,0 1,0 2,0")], [TRIANGLE + TRIANGLE]):
            self.assertEqual(layer_of(rings), rings)

    def test_too_few_and_too_many_rings(self):
        self.refused([], 0, 0)
        self.refused([TRIANGLE] * 5, 0, 0)
        self.refused([TRIANGLE] * 300, 0, 0)
        self.refused([TRIANGLE, [], [], [], []], 0, 0)

    def test_too_few_and_too_many_points(self):
        for ring in ([], TRIANGLE[:1], TRIANGLE[:2], LONG + [at(-1, 5)], LONG * 20):
            self.refused([ring], 0, 0)
            self.refused([TRIANGLE, SQUARE, ring], 2, 0)
            self.refused([TRIANGLE, SQUARE, LONG, ring], 3, 0)

    def test_bounds(self):
        for sign in (1, -1):
            for edge in ((sign * FAR, 0, 1), (0, sign * FAR, 1), (sign * FAR, sign * FAR, 1), (sign, sign, FINE),
                         (sign * FAR, 1, FINE), (1, sign * (FAR - 1), FINE - 1)):
                rings = [[(5, 5, 1), edge, (7, 5, 2)]]
                self.assertEqual(layer_of(rings), rings)
            for beyond in ((sign * (FAR + 1), 0, 1), (0, sign * (FAR + 1), 1), (sign, 0, FINE + 1),
                           (0, sign, FINE + 1), (sign * FAR * FAR, 1, FINE), (1, sign * (FAR + 1), FINE)):
                self.refused([[(5, 5, 1), beyond, (7, 5, 2)]], 0, 1)
                self.refused([TRIANGLE, [beyond, (5, 5, 1), (7, 5, 2)]], 1, 0)

    def test_neighbours_alike(self):
        for k in range(1, 4):
            self.refused([SQUARE[:k] + SQUARE[k - 1:]], 0, k)
        self.refused([TRIANGLE, LONG[:5] + LONG[4:-1]], 1, 5)
        self.refused([LONG[:11] + LONG[10:11]], 0, 11)

    def test_the_last_alike_with_the_first(self):
        self.refused([SQUARE + SQUARE[:1]], 0, 4)
        self.refused([dots("0,0 1,0 0,0")], 0, 2)
        self.refused([TRIANGLE, TRIANGLE, LONG[:11] + LONG[:1]], 2, 11)

    def test_points_that_come_again_elsewhere(self):
        rings = [dots("0,0 1,0 0,0 0,1"), dots("0,0 1,0 0,1 1,0")]
        self.assertEqual(layer_of(rings), rings)

    def test_no_list(self):
        for thing in odd_things() + [tuple([TRIANGLE]), {0: TRIANGLE}, "abc", iter([TRIANGLE])]:
            self.refused(thing, 0, 0)

    def test_no_ring(self):
        for thing in odd_things() + [tuple(TRIANGLE), {0: 1, 1: 2, 2: 3}, "abc", (1, 2, 3), set(TRIANGLE)]:
            self.refused([thing], 0, 0)
            self.refused([TRIANGLE, thing, TRIANGLE], 1, 0)

    def test_no_point(self):
        wrong = [(0, 0, 2), (2, 4, 6), (1, 1, 0), (1, 1, -1), (True, 0, 1), (0, 0, True), (0, False, 1), [0, 0, 1],
                 (0, 1), (0, 0, 1, 1), (0.0, 0, 1), "0,0", None]
        for thing in odd_things() + wrong:
            self.refused([[thing] + SQUARE], 0, 0)
            self.refused([SQUARE + [thing]], 0, 4)
            self.refused([SQUARE, SQUARE[:2] + [thing] + SQUARE[2:]], 1, 2)

    def test_of_several_faults_the_first(self):
        self.refused([SQUARE[:2] + [None] + SQUARE[:1], []], 0, 2)
        self.refused([SQUARE + SQUARE[:1], None], 0, 4)
        self.refused([[], [None] * 3], 0, 0)
        self.refused([TRIANGLE, [SQUARE[0], SQUARE[0], None]], 1, 1)
        self.refused([[SQUARE[0], None, SQUARE[0]]], 0, 1)
        self.refused([[None] * 13], 0, 0)
        self.refused([[None] * 3, []], 0, 0)
        self.refused([TRIANGLE, [SQUARE[0], SQUARE[1], SQUARE[1], SQUARE[0]]], 1, 2)
        self.refused([SQUARE[:1] * 3], 0, 1)
        self.refused([SQUARE, [Sore(), Sore(), Sore()]], 1, 0)

    def test_new_lists_are_told(self):
        rings = [list(SQUARE), list(TRIANGLE)]
        layer = layer_of(rings)
        self.assertEqual(rings, [SQUARE, TRIANGLE])
        rings[0][0] = None
        rings.append(None)
        self.assertEqual(layer, [SQUARE, TRIANGLE])
        layer[1].append(None)
        self.assertEqual(rings[1], TRIANGLE)

    def test_alike_rings_are_told_as_lists_of_their_own(self):
        ring = list(SQUARE)
        layer = layer_of([ring, ring])
        layer[0].clear()
        self.assertEqual(layer, [[], SQUARE])
        self.assertEqual(ring, SQUARE)


class Sides(unittest.TestCase):
    def test_in_their_row(self):
        a, b, c = TRIANGLE
        self.assertEqual(sides_of([TRIANGLE]), [(a, b), (b, c), (c, a)])
        self.assertEqual(sides_of([TRIANGLE, [c, b, a]]), [(a, b), (b, c), (c, a), (c, b), (b, a), (a, c)])
        self.assertEqual(sides_of([[a, b]]), [(a, b), (b, a)])
        self.assertEqual(sides_of([]), [])

    def test_of_many(self):
        chance = chance_of(6)
        for number in range(20):
            rings = [grid_ring(chance, 12) for ring in range(number % 4 + 1)]
            sides = sides_of(rings)
            self.assertEqual(sides, ring_sides(rings))
            self.assertEqual([type(sides)] + [type(side) for side in sides], [list] + [tuple] * len(sides))

    def test_what_is_handed_in_stays(self):
        rings = [list(SQUARE), list(TRIANGLE)]
        sides_of(rings).clear()
        rounds_about(rings, at(1, 1))
        self.assertEqual(rings, [SQUARE, TRIANGLE])
        self.assertEqual(len(sides_of(rings)), 7)


class Rounds(unittest.TestCase):
    def test_to_the_left_and_to_the_right(self):
        self.assertEqual(rounds_about([SQUARE], at(1, 1)), 1)
        self.assertEqual(rounds_about([SQUARE[::-1]], at(1, 1)), -1)
        self.assertEqual(rounds_about([SQUARE], at(3, 1)), 0)
        self.assertEqual(rounds_about([SQUARE], at(1, 3)), 0)
        self.assertEqual(rounds_about([SQUARE], at(1, -1)), 0)
        self.assertEqual(rounds_about([SQUARE], at(-1, 1)), 0)

    def test_twice_round(self):
        self.assertEqual(rounds_about([SQUARE + SQUARE], at(1, 1)), 2)
        self.assertEqual(rounds_about([SQUARE, SQUARE[::-1], SQUARE, SQUARE], at(1, 1)), 2)
        self.assertEqual(rounds_about([SQUARE, TRIANGLE], at(1, 1)), 2)

    def test_crossing_itself(self):
        bow = dots("0,0 2,2 2,0 0,2")
        self.assertEqual(rounds_about([bow], at("1/2", 1)), 1)
        self.assertEqual(rounds_about([bow], at("3/2", 1)), -1)
        self.assertEqual(rounds_about([bow], at(1, "3/2")), 0)
        self.assertEqual(rounds_about([star((0, 0), 1, 1, 5)], at(0, 0)), 5)

    def test_on_sides_and_corners(self):
        answers = {"0,0": 0, "2,0": 0, "1,0": 0, "0,2": 1, "1,2": 1, "0,1": 1, "2,1": 0, "2,2": 0,
                   "0,3": 0, "0,-1": 0, "2,3": 0, "2,-1": 0}
        for text, answer in answers.items():
            self.assertEqual(rounds_about([SQUARE], dots(text)[0]), answer, text)
            self.assertEqual(rounds_about([SQUARE[::-1]], dots(text)[0]), -answer, text)

    def test_rings_of_two_points(self):
        ring = dots("0,0 4,2")
        for p in samples(ring_sides([ring])):
            self.assertEqual(rounds_about([ring], p), 0)

    def test_of_no_rings(self):
        self.assertEqual(rounds_about([], at(0, 0)), 0)

    def test_points_of_all_sorts(self):
        chance = chance_of(11)
        for number in range(25):
            rings = [grid_ring(chance, 6) for ring in range(number % 3 + 1)]
            sides = ring_sides(rings)
            for p in samples(sides):
                number = rounds_about(rings, p)
                self.assertEqual(number, rounds_by_rule(rings, p))
                if not any([is_on(p, u, v) for u, v in sides]):
                    self.assertEqual(number, winding(rings, p))

    def test_long_numbers(self):
        chance = chance_of(12)
        for figures in (12, 300):
            rings = [[some_point(chance, figures) for point in range(9)] for ring in range(3)]
            for number in range(20):
                p = some_point(chance, figures)
                self.assertEqual(rounds_about(rings, p), rounds_by_rule(rings, p))

    def test_each_side_counts_by_itself(self):
        chance = chance_of(13)
        for number in range(300):
            u, v, p = [some_point(chance, 1) for three in "uvp"]
            if u != v:
                away = [some_point(chance, 1) for one in "w"]
                ring = [u, v] + [w for w in away if w not in (u, v)]
                self.assertEqual(rounds_about([ring], p), sum([goes_under(*side, p) for side in ring_sides([ring])]))
