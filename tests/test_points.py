import functools
import unittest
from fractions import Fraction
from math import gcd

from plymap.errors import NoPoint
from plymap.points import in_order, is_ahead, is_point, middle_of, point_by, point_of, x_of, y_of
from tests.helper import at, chance_of, odd_things, place, some_number, some_point, told

MOST = 10 ** 700 - 1
LESS = MOST - 1
FEW = [point_by(a, b, c) for a in range(-3, 4) for b in range(-3, 4) for c in (1, 2, 3)]


def some_points(seed, many, figures):
    chance = chance_of(seed)
    return [some_point(chance, figures) for number in range(many)]


BIG = some_points(7, 12, 700) + [(MOST, -MOST, 1), (1, 0, MOST), (LESS, LESS, MOST), (0, 0, 1)]


def sorted_places(points):
    return sorted({place(p) for p in points})


class Made(unittest.TestCase):
    def check(self, a, b, c):
        p = point_by(a, b, c)
        self.assertEqual(place(p), (Fraction(a, c), Fraction(b, c)))
        self.assertGreaterEqual(p[2], 1)
        self.assertEqual(gcd(*p), 1)
        self.assertEqual([type(p)] + [type(part) for part in p], [tuple, int, int, int])

    def test_of_small_numbers_of_every_sign(self):
        for a in range(-8, 9):
            for b in range(-8, 9):
                for c in list(range(-8, 0)) + list(range(1, 9)):
                    self.check(a, b, c)

    def test_examples(self):
        self.assertEqual(point_by(2, 4, -2), (-1, -2, 1))
        self.assertEqual(point_by(0, 0, -7), (0, 0, 1))
        self.assertEqual(point_by(6, 10, 15), (6, 10, 15))
        self.assertEqual(point_by(0, 3, 6), (0, 1, 2))
        self.assertEqual(point_by(3, 0, 6), (1, 0, 2))

    def test_of_long_numbers(self):
        chance = chance_of(3)
        for figures in (30, 700):
            for number in range(10):
                shared = chance.randrange(1, 10 ** 90)
                a, b = [some_number(chance, figures) * shared for two in "ab"]
                self.check(a, b, chance.choice([-1, 1]) * chance.randrange(1, 10 ** figures) * shared)
        self.assertEqual(point_by(MOST, -MOST, -MOST), (-1, 1, 1))

    def test_third_number_of_nought_is_refused(self):
        for a, b in ((0, 0), (1, 2), (-1, 0), (MOST, MOST)):
            with self.assertRaises(NoPoint):
                point_by(a, b, 0)

    def test_of_two_fractions(self):
        for x in (Fraction(0), Fraction(1, 2), Fraction(-5, 6), Fraction(7, 4), Fraction(-3)):
            for y in (Fraction(0), Fraction(1, 2), Fraction(5, 9), Fraction(-7, 6), Fraction(11)):
                p = point_of(told(x), told(y))
                self.assertEqual(place(p), (x, y))
                self.assertIs(is_point(p), True)
        self.assertEqual(point_of((1, 2), (1, 3)), (3, 2, 6))
        self.assertEqual(point_of((1, 4), (1, 6)), (3, 2, 12))

    def test_there_and_back(self):
        for p in FEW + BIG:
            x, y = x_of(p), y_of(p)
            self.assertEqual((x, y), tuple([told(number) for number in place(p)]))
            self.assertEqual(point_of(x, y), p)

    def test_x_and_y_are_in_lowest_terms(self):
        self.assertEqual(x_of((6, 10, 15)), (2, 5))
        self.assertEqual(y_of((6, 10, 15)), (2, 3))
        self.assertEqual(x_of((0, 1, 2)), (0, 1))


class Asked(unittest.TestCase):
    def test_points(self):
        for p in FEW + BIG:
            self.assertIs(is_point(p), True)

    def test_all_small_tuples(self):
        for a in range(-5, 6):
            for b in range(-5, 6):
                for c in range(-5, 6):
                    good = c > 0 and gcd(a, b, c) == 1
                    self.assertIs(is_point((a, b, c)), good, (a, b, c))

    def test_not_in_lowest_terms(self):
        for thing in ((0, 0, 2), (2, 4, 6), (0, 3, 3), (3, 0, 3), (MOST, MOST, MOST), (0, 0, MOST)):
            self.assertIs(is_point(thing), False)

    def test_parts_that_share_by_twos_alone(self):
        for thing in ((6, 10, 15), (15, 6, 10), (0, 2, 3), (2, 0, 3), (4, 4, 1)):
            self.assertIs(is_point(thing), True)

    def test_third_number_of_nought_or_below(self):
        for thing in ((1, 1, 0), (0, 0, 0), (0, 1, 0), (1, 2, -1), (0, 0, -1), (-1, -1, -MOST)):
            self.assertIs(is_point(thing), False)

    def test_more_or_fewer_parts(self):
        for thing in ((), (1,), (0, 1), (0, 0, 1, 1), (1, 1, 1, 1), [0, 0, 1], [1, 2, 3], ((0, 0, 1),), "001"):
            self.assertIs(is_point(thing), False)

    def test_truths_in_a_parts_place(self):
        for thing in ((True, 0, 1), (0, False, 1), (0, 0, True), (False, False, True), (1, True, 2), (2, 2, True)):
            self.assertIs(is_point(thing), False)

    def test_whatever_else(self):
        for thing in odd_things():
            self.assertIs(is_point(thing), False)


class Order(unittest.TestCase):
    def test_ahead_of_all_few(self):
        for p in FEW:
            for q in FEW:
                self.assertIs(is_ahead(p, q), place(p) < place(q))

    def test_ahead_of_long_ones(self):
        for p in BIG:
            for q in BIG:
                self.assertIs(is_ahead(p, q), place(p) < place(q))

    def test_x_goes_ahead_of_y(self):
        self.assertIs(is_ahead(at(0, 5), at(1, 2)), True)
        self.assertIs(is_ahead(at(1, 2), at(0, 5)), False)
        self.assertIs(is_ahead(at(1, "-1/2"), at(1, "-1/3")), True)
        self.assertIs(is_ahead(at(1, "-1/3"), at(1, "-1/2")), False)
        self.assertIs(is_ahead((1, 1, 2), (2, 1, 4)), False)
        self.assertIs(is_ahead((2, 1, 4), (1, 1, 2)), True)

    def test_a_point_and_itself(self):
        for p in FEW + BIG:
            self.assertIs(is_ahead(p, p), False)

    def test_x_hardly_unlike(self):
        near, far = point_by(LESS, 0, MOST), point_by(LESS - 1, MOST, LESS)
        self.assertIs(is_ahead(far, near), True)
        self.assertIs(is_ahead(near, far), False)

    def test_in_order_of_none_and_one(self):
        self.assertEqual(in_order([]), [])
        self.assertEqual(in_order([(1, 2, 3)]), [(1, 2, 3)])
        self.assertEqual(in_order([(1, 2, 3)] * 5), [(1, 2, 3)])

    def test_in_order_of_few(self):
        for seed in range(60):
            points = some_points(seed, seed % 12, 1)
            self.assertEqual([place(p) for p in in_order(points)], sorted_places(points))

    def test_in_order_of_many(self):
        for figures in (1, 2, 300):
            points = some_points(figures, 200, figures)
            points = points + points[::-1][:100]
            self.assertEqual([place(p) for p in in_order(points)], sorted_places(points))

    def test_rows_rising_and_falling(self):
        row = [at(number, -number) for number in range(100)]
        self.assertEqual(in_order(row), row)
        self.assertEqual(in_order(row[::-1]), row)
        upright = [at("1/3", Fraction(number, 7)) for number in range(-50, 50)]
        self.assertEqual(in_order(upright[::-1] + upright), upright)

    def test_in_order_is_the_order_of_ahead(self):
        points = list(dict.fromkeys(some_points(99, 300, 2)))
        rule = functools.cmp_to_key(lambda p, q: -1 if is_ahead(p, q) else 1)
        self.assertEqual(in_order(points), sorted(points, key=rule))

    def test_what_is_handed_in_stays(self):
        for points in ([(1, 0, 1), (0, 0, 1), (1, 0, 1)], [(0, 0, 1), (1, 0, 1)], [(0, 0, 1)], []):
            kept = list(points)
            row = in_order(points)
            self.assertEqual(points, kept)
            self.assertIsNot(row, points)
            row.append((5, 5, 1))
            row[0] = (7, 7, 1)
            self.assertEqual(points, kept)
            self.assertEqual(in_order(points), sorted(set(kept)))


class Middle(unittest.TestCase):
    def check(self, p, q):
        (xp, yp), (xq, yq) = place(p), place(q)
        z = middle_of(p, q)
        self.assertEqual(place(z), ((xp + xq) / 2, (yp + yq) / 2))
        self.assertIs(is_point(z), True)
        self.assertEqual(middle_of(q, p), z)

    def test_of_two(self):
        for p in FEW:
            for q in FEW[::5]:
                self.check(p, q)

    def test_of_long_ones(self):
        for p in BIG:
            self.check(p, BIG[0])

    def test_of_a_point_and_itself(self):
        for p in FEW + BIG:
            self.assertEqual(middle_of(p, p), p)
