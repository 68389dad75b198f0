import unittest
from fractions import Fraction

from plymap.turns import height_at, lies_on, round_sum, turn, twice_of
from tests.helper import as_fraction, at, chance_of, dots, is_on, lean, place, some_point, told

MOST = 10 ** 700 - 1
GRID = [at(Fraction(x, 2), Fraction(y, 2)) for x in range(-2, 3) for y in range(-2, 3)]
SQUARE = dots("0,0 2,0 2,2 0,2")


def some_points(seed, many, figures):
    chance = chance_of(seed)
    return [some_point(chance, figures) for number in range(many)]


BIG = some_points(8, 6, 700)


class Turn(unittest.TestCase):
    def test_left_right_and_one_line(self):
        self.assertEqual(turn(*dots("0,0 1,0 0,1")), 1)
        self.assertEqual(turn(*dots("0,0 1,0 0,-1")), -1)
        self.assertEqual(turn(*dots("0,0 1,0 5,0")), 0)
        self.assertEqual(turn(*dots("0,0 1,0 -5,0")), 0)
        self.assertEqual(turn(*dots("1/2,1/3 1/5,1/7 1/2,1/4")), 1)
        self.assertEqual(turn(*dots("0,0 1/2,1/3 3/2,1")), 0)

    def test_all_of_a_grid(self):
        for p in GRID:
            for q in GRID:
                for r in GRID:
                    self.assertEqual(turn(p, q, r), lean(p, q, r))

    def test_two_alike(self):
        for p in GRID[:9] + BIG:
            for q in GRID[:9] + BIG:
                self.assertEqual([turn(p, p, q), turn(p, q, p), turn(q, p, p)], [0, 0, 0])

    def test_bottoms_unlike(self):
        for figures in (1, 2, 700):
            points = some_points(figures, 8, figures)
            for p in points:
                for q in points:
                    for r in points[:4]:
                        self.assertEqual(turn(p, q, r), lean(p, q, r))

    def test_hardly_off_the_line(self):
        p, q = at(0, 0), at(1, 1)
        self.assertEqual(turn(p, q, at(Fraction(1, MOST), Fraction(1, MOST - 1))), 1)
        self.assertEqual(turn(p, q, at(Fraction(1, MOST), Fraction(1, MOST + 1))), -1)
        self.assertEqual(turn(p, q, at(Fraction(1, MOST), Fraction(1, MOST))), 0)


class Twice(unittest.TestCase):
    def test_of_two(self):
        for points in (GRID, BIG, some_points(3, 20, 3)):
            for p in points:
                for q in points:
                    (xp, yp), (xq, yq) = place(p), place(q)
                    self.assertEqual(twice_of(p, q), told(xp * yq - xq * yp))

    def test_examples(self):
        self.assertEqual(twice_of(at(1, 0), at(0, 1)), (1, 1))
        self.assertEqual(twice_of(at(0, 1), at(1, 0)), (-1, 1))
        self.assertEqual(twice_of(at("1/2", 0), at(0, "1/2")), (1, 4))


class RoundSum(unittest.TestCase):
    def test_of_none_one_two(self):
        self.assertEqual(round_sum([]), (0, 1))
        for p in GRID + BIG:
            self.assertEqual(round_sum([p]), (0, 1))
        self.assertEqual(round_sum(dots("1,0 0,1")), (0, 1))
        self.assertEqual(round_sum(BIG[:2]), (0, 1))

    def test_rings_to_the_left_and_to_the_right(self):
        self.assertEqual(round_sum(SQUARE), (8, 1))
        self.assertEqual(round_sum(SQUARE[::-1]), (-8, 1))
        self.assertEqual(round_sum(SQUARE + SQUARE), (16, 1))
        self.assertEqual(round_sum(dots("0,0 1/2,0 0,1/3")), (1, 6))
        self.assertEqual(round_sum(dots("5,5 5,6 6,5")), (-1, 1))

    def test_begun_elsewhere(self):
        for k in range(4):
            self.assertEqual(round_sum(SQUARE[k:] + SQUARE[:k]), (8, 1))

    def test_far_from_the_middle(self):
        self.assertEqual(round_sum(dots("100,100 101,100 101,101")), (1, 1))

    def test_of_many(self):
        for seed, many, figures in ((1, 3, 1), (2, 12, 2), (3, 300, 1), (4, 40, 60), (5, 5, 700)):
            points = some_points(seed, many, figures)
            sums = [as_fraction(twice_of(points[k], points[(k + 1) % many])) for k in range(many)]
            self.assertEqual(round_sum(points), told(sum(sums)))

    def test_what_is_handed_in_stays(self):
        points = list(SQUARE)
        round_sum(points)
        self.assertEqual(points, SQUARE)


class Sides(unittest.TestCase):
    def test_all_of_a_grid(self):
        for a in GRID:
            for b in GRID:
                if a != b:
                    for p in GRID:
                        self.assertIs(lies_on(p, a, b), is_on(p, a, b))

    def test_ends(self):
        for a, b in (dots("0,0 3,1"), dots("0,0 0,1/3"), dots("1/2,2 9,2"), BIG[:2]):
            for p in (a, b):
                self.assertIs(lies_on(p, a, b), True)
                self.assertIs(lies_on(p, b, a), True)

    def test_between_beyond_and_beside(self):
        for a, b in (dots("-2,-1 4,2"), dots("1/3,-1 1/3,2"), dots("-2,1/7 4,1/7"), dots("0,1 1,-6")):
            (xa, ya), (xb, yb) = place(a), place(b)
            for t in (Fraction(-1), Fraction(-1, 99), Fraction(1, 99), Fraction(1, 2), Fraction(98, 99),
                      Fraction(100, 99), Fraction(2)):
                p = at(xa + t * (xb - xa), ya + t * (yb - ya))
                off = at(xa + t * (xb - xa) - (yb - ya) / 999, ya + t * (yb - ya) + (xb - xa) / 999)
                for u, v in ((a, b), (b, a)):
                    self.assertIs(lies_on(p, u, v), 0 <= t <= 1)
                    self.assertIs(lies_on(off, u, v), False)

    def test_hardly_off_the_side(self):
        a, b = at(0, 0), at(1, 1)
        self.assertIs(lies_on(at(Fraction(1, MOST), Fraction(1, MOST)), a, b), True)
        self.assertIs(lies_on(at(Fraction(-1, MOST), Fraction(-1, MOST)), a, b), False)
        self.assertIs(lies_on(at(Fraction(MOST + 1, MOST), Fraction(MOST + 1, MOST)), a, b), False)
        self.assertIs(lies_on(at(Fraction(1, MOST), Fraction(1, MOST - 1)), a, b), False)


class Heights(unittest.TestCase):
    def check(self, a, b, x):
        (xa, ya), (xb, yb) = place(a), place(b)
        y = told(ya + (x - xa) * (yb - ya) / (xb - xa))
        self.assertEqual(height_at(a, b, told(x)), y)
        self.assertEqual(height_at(b, a, told(x)), y)

    def test_between_at_and_beyond_the_ends(self):
        for a, b in (dots("0,0 1,1"), dots("-1,1/2 2,1/2"), dots("1/3,5 1/2,-5"), dots("-4,1/7 -1/9,8"), BIG[:2]):
            (xa, ya), (xb, yb) = place(a), place(b)
            for t in (-9, -1, 0, Fraction(1, 3), Fraction(1, 2), 1, Fraction(7, 5), 100):
                self.check(a, b, xa + t * (xb - xa))
            self.assertEqual(height_at(a, b, told(xa)), told(ya))
            self.assertEqual(height_at(a, b, told(xb)), told(yb))

    def test_at_nought(self):
        self.assertEqual(height_at(at(-1, 2), at(1, 4), (0, 1)), (3, 1))
        self.assertEqual(height_at(at(-1, 2), at(1, -2), (0, 1)), (0, 1))

    def test_all_of_a_grid(self):
        for a in GRID:
            for b in GRID:
                if a[0] * b[2] != b[0] * a[2]:
                    for x in (Fraction(-3), Fraction(1, 3), Fraction(1, 2)):
                        self.check(a, b, x)
