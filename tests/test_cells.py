import unittest
from fractions import Fraction

from plymap.bringing import brought_to
from plymap.cells import cell_middle, cell_of, hot_cells, meets_cell
from plymap.plans import plan_of
from plymap.threads import thread_of, threads_of
from tests.helper import (FORMS, SQUARE, as_fraction, at, cell_by, chance_of, dots, hot_by, middle_by, place, refusal,
                          some_plans, some_point, stations, told)

SIZES = [(1, 1), (2, 1), (10, 1), (1, 2), (1, 3), (3, 7), (7, 2), (10 ** 40, 1), (1, 10 ** 40)]
BAD_SIZES = [(0, 1), (-1, 1), (-1, 2), (-(10 ** 299), 1), (-1, 10 ** 299), (-7, 3)]


class Cells(unittest.TestCase):
    def test_within(self):
        for text, size, cell in (("0,0", (1, 1), (0, 0)), ("1/4,-1/4", (1, 1), (0, 0)), ("3,4", (1, 1), (3, 4)),
                                 ("-3,-4", (1, 1), (-3, -4)), ("-13/4,7/2", (1, 1), (-3, 4)), ("9,9", (10, 1), (1, 1)),
                                 ("4,-4", (10, 1), (0, 0)), ("1,1", (1, 3), (3, 3)), ("-1,2", (3, 7), (-2, 5))):
            self.assertEqual(cell_of(dots(text)[0], size), cell, text)

    def test_lower_bounds_belong_to_a_cell_and_upper_ones_do_not(self):
        for text, size, cell in (("1/2,0", (1, 1), (1, 0)), ("-1/2,0", (1, 1), (0, 0)), ("0,1/2", (1, 1), (0, 1)),
                                 ("0,-1/2", (1, 1), (0, 0)), ("1/2,1/2", (1, 1), (1, 1)), ("-1/2,-1/2", (1, 1), (0, 0)),
                                 ("-3/2,5/2", (1, 1), (-1, 3)), ("5,5", (10, 1), (1, 1)), ("-5,-15", (10, 1), (0, -1)),
                                 ("1/6,-1/6", (1, 3), (1, 0)), ("1,-1", (2, 1), (1, 0)), ("-7/4,7/4", (7, 2), (0, 1))):
            self.assertEqual(cell_of(dots(text)[0], size), cell, text)

    def test_bounds_in_x_in_y_and_in_both(self):
        for size in SIZES:
            wide = as_fraction(size)
            for i, j in ((0, 0), (3, -2), (-5, 7), (-1, -1)):
                left, low = (i - Fraction(1, 2)) * wide, (j - Fraction(1, 2)) * wide
                for part, dx in ((0, 0), (Fraction(1, 3), 0), (Fraction(999, 1000), 0), (1, 1)):
                    for share, dy in ((0, 0), (Fraction(2, 3), 0), (Fraction(999, 1000), 0), (1, 1)):
                        p = at(left + part * wide, low + share * wide)
                        self.assertEqual(cell_of(p, size), (i + dx, j + dy))

    def test_by_chance(self):
        chance = chance_of(341)
        for number in range(300):
            p, size = some_point(chance, chance.choice([1, 3, 50])), chance.choice(SIZES)
            cell = cell_of(p, size)
            self.assertEqual(cell, cell_by(p, size))
            for number, k in zip(place(p), cell):
                self.assertTrue((k - Fraction(1, 2)) * as_fraction(size) <= number)
                self.assertTrue(number < (k + Fraction(1, 2)) * as_fraction(size))

    def test_large_numbers(self):
        many = 10 ** 299
        self.assertEqual(cell_of((many, -many, 1), (1, 1)), (many, -many))
        self.assertEqual(cell_of((1, -1, many), (1, 1)), (0, 0))
        self.assertEqual(cell_of((1, -1, 2), (1, many)), (many // 2, -many // 2))
        self.assertEqual(cell_of((many, 0, 1), (many - 1, many)), ((2 * many * many + many - 1) // (2 * many - 2), 0))

    def test_middles(self):
        for cell, size, text in (((0, 0), (7, 3), "0,0"), ((1, -2), (1, 1), "1,-2"), ((3, 4), (1, 2), "3/2,2"),
                                 ((-1, 6), (5, 3), "-5/3,10"), ((10, 0), (10, 1), "100,0")):
            self.assertEqual(cell_middle(cell, size), dots(text)[0])

    def test_a_middle_lies_in_its_cell(self):
        chance = chance_of(342)
        for size in SIZES:
            for number in range(20):
                cell = (chance.randrange(-99, 99), chance.randrange(-99, 99))
                self.assertEqual(cell_of(cell_middle(cell, size), size), cell)
                self.assertEqual(cell_middle(cell, size), middle_by(cell, size))


class Meets(unittest.TestCase):
    """The cell (0, 0) of size 2 has all points with -1 <= x < 1 and -1 <= y < 1."""

    def check(self, text, met, cell=(0, 0), size=(2, 1)):
        p, q = dots(text)
        for one, other in ((p, q), (q, p)):
            self.assertIs(meets_cell(one, other, cell, size), met, text)

    def test_through(self):
        for text in ("-2,0 2,0", "0,-2 0,2", "-2,-2 2,2", "-2,1/2 2,1/3", "-2,2 2,-2", "-3,1 1,-2", "0,0 5,5"):
            self.check(text, True)

    def test_within(self):
        for text in ("0,0 1/2,1/2", "0,0 0,1/2", "-1/2,-1/2 1/2,-1/2", "-1,-1 99/100,99/100"):
            self.check(text, True)

    def test_past(self):
        for text in ("-2,2 2,2", "-2,-2 2,-2", "2,-2 2,2", "-2,-2 -2,2", "0,3 3,0", "-3,0 0,-3", "2,0 3,0", "0,-3 0,-2",
                     "5,5 6,6", "-6,-6 -5,-5", "-2,1 1,3"):
            self.check(text, False)

    def test_along_the_lower_bounds(self):
        for text in ("-1,-5 -1,5", "-5,-1 5,-1", "-1,0 -1,1/2", "0,-1 1/2,-1", "-1,0 -1,9", "-1,-9 -1,-1",
                     "-9,-1 -1,-1"):
            self.check(text, True)

    def test_along_the_upper_bounds(self):
        for text in ("1,-5 1,5", "-5,1 5,1", "1,0 1,1/2", "0,1 1/2,1", "1,-1 1,1", "-1,1 1,1", "-1,1 -1,9",
                     "1,-1 9,-1"):
            self.check(text, False)

    def test_by_an_end_alone(self):
        for text, met in (("-1,0 -5,0", True), ("0,-1 0,-5", True), ("-1,0 -5,1", True), ("1,0 5,0", False),
                          ("0,1 0,5", False), ("1,0 5,1", False), ("0,1 3,4", False), ("0,-1 3,-4", True),
                          ("-1,1/2 -3,2", True), ("1,1/2 3,2", False)):
            self.check(text, met)

    def test_corners(self):
        """Just the lower left corner belongs to the cell."""
        for text, met in (("-2,0 0,-2", True), ("-1,-1 -5,-5", True), ("-1,-1 -9,-1", True), ("-1,-1 -1,-9", True),
                          ("-1,-1 -5,3", True), ("0,2 2,0", False), ("1,1 5,5", False), ("-2,0 0,2", False),
                          ("-1,1 -5,5", False), ("-1,1 -1,5", False), ("-1,1 -5,1", False), ("0,-2 2,0", False),
                          ("1,-1 5,-5", False), ("1,-1 5,-1", False), ("1,-1 1,-5", False), ("-1,1 0,5", False),
                          ("1,-1 5,0", False)):
            self.check(text, met)

    def test_through_a_corner_that_is_not_its_own_and_on(self):
        for text, met in (("1,1 0,0", True), ("1,-1 0,0", True), ("-1,1 0,0", True), ("2,2 1/2,1/2", True),
                          ("-1,1 1,-1", True), ("-1,1 1,1/2", True), ("1,-1 1/2,1", True), ("-2,2 1,-1", True)):
            self.check(text, met)

    def test_touching_just_the_upper_bound_from_within_is_within(self):
        self.check("0,0 1,0", True)
        self.check("0,0 0,1", True)
        self.check("0,0 1,1", True)

    def test_other_cells_and_sizes(self):
        self.check("0,0 10,5", True, (3, 1), (1, 1))
        self.check("0,0 10,5", True, (3, 2), (1, 1))
        self.check("0,0 10,5", False, (2, 0), (1, 1))
        self.check("0,0 10,5", False, (4, 3), (1, 1))
        self.check("0,0 -10,-5", True, (-3, -1), (1, 1))
        self.check("0,0 -10,-5", True, (-3, -2), (1, 1))
        self.check("0,0 -10,-5", False, (-3, -3), (1, 1))
        self.check("0,0 -10,-5", False, (-2, -2), (1, 1))
        self.check("0,0 1,0", True, (5, 0), (1, 7))
        self.check("0,0 1,0", False, (8, 0), (1, 7))
        self.check("0,0 10,10", True, (0, 0), (100, 1))

    def test_by_stations(self):
        chance = chance_of(343)
        met = {True: 0, False: 0}
        for number in range(400):
            p, q = some_point(chance), some_point(chance)
            size = chance.choice([(1, 1), (2, 1), (1, 2), (3, 2), (5, 1)])
            if chance.random() < 0.5:
                p, q = [at(*[k * as_fraction(size) / 2 for k in (chance.randrange(-5, 6), chance.randrange(-5, 6))])
                        for end in range(2)]
            if p == q:
                continue
            for i in range(-2, 3):
                cell = (i, chance.randrange(-2, 3))
                seen = cell in [cell_by(z, size) for z in stations(p, q, [cell], size)]
                self.assertIs(meets_cell(p, q, cell, size), seen, (p, q, cell, size))
                met[seen] += 1
        self.assertGreater(min(met.values()), 200)

    def test_large_numbers(self):
        many = 10 ** 299
        p, q = (-many, 1 - many, 1), (many, many, 1)
        self.assertIs(meets_cell(p, q, (1, 0), (1, 1)), False)
        self.assertIs(meets_cell(p, q, (0, 0), (1, 1)), True)
        self.assertIs(meets_cell(p, q, (0, 1), (1, 1)), True)
        self.assertIs(meets_cell(p, q, (many, many), (1, 1)), True)
        self.assertIs(meets_cell((0, 0, 1), (1, 0, many), (1, 0), (2, 1)), False)
        self.assertIs(meets_cell((0, 0, 1), (1, 0, 1), (many, 0), (1, many)), True)


class Hot(unittest.TestCase):
    def test_a_square(self):
        plan = plan_of([[SQUARE]])
        self.assertEqual(hot_cells(plan, (1, 1)), [(0, 0), (0, 4), (4, 0), (4, 4)])
        self.assertEqual(hot_cells(plan, (8, 1)), [(0, 0), (0, 1), (1, 0), (1, 1)])
        self.assertEqual(hot_cells(plan, (9, 1)), [(0, 0)])
        self.assertEqual(hot_cells(plan, (1, 2)), [(0, 0), (0, 8), (8, 0), (8, 8)])

    def test_rising_each_once(self):
        plan = plan_of([[dots("-9,-9 9,-8 10,9 -8,10")], FORMS["bow"]])
        self.assertEqual(hot_cells(plan, (3, 1)), [(-3, -3), (-3, 3), (0, 0), (0, 1), (1, 0), (1, 1), (3, -3), (3, 3)])
        for plan in some_plans(344, 6):
            for size in SIZES:
                hot = hot_cells(plan, size)
                self.assertEqual(hot, hot_by(plan, size))
                hot.append(None)
                self.assertEqual(hot_cells(plan, size), hot[:-1])

    def test_crossings_are_corners(self):
        self.assertIn((1, 1), hot_cells(plan_of([FORMS["bow"]]), (1, 1)))

    def test_of_no_pieces(self):
        for many in (0, 1, 7):
            self.assertEqual(hot_cells((many, []), (1, 3)), [])


class Sizes(unittest.TestCase):
    def test_no_size(self):
        p, q = dots("0,0 3,1")
        plan = plan_of([[SQUARE]])
        for size in BAD_SIZES:
            for call, things in ((cell_of, (p,)), (cell_middle, ((1, 2),)), (meets_cell, (p, q, (0, 0))),
                                 (hot_cells, (plan,)), (thread_of, (p, q, [(0, 0)])), (threads_of, (plan,)),
                                 (brought_to, (plan,)), (hot_cells, ((0, []),)), (thread_of, (p, q, [])),
                                 (threads_of, ((1, []),)), (brought_to, ((0, []),))):
                self.assertEqual(refusal(call, *things, size), ("NoSize",), call.__name__)

    def test_any_size_above_nothing(self):
        for size in SIZES + [told(Fraction(1, 10 ** 299)), (10 ** 299, 1)]:
            self.assertEqual(cell_of((0, 0, 1), size), (0, 0))
            self.assertEqual(brought_to((3, []), size), (3, []))
