import itertools
import unittest

from plymap.meets import meet
from plymap.points import is_point, point_by
from tests.helper import at, chance_of, dots, shared_by, some_point

FAR = 10 ** 12
GRID = [at(x, y) for x in (0, 1, 2, 3) for y in (0, 1, 2)] + dots("1/2,1/2 3/2,1")


def ways_of(a, b, c, d):
    """Both sides, their ends and themselves in every row."""
    for one in ((a, b), (b, a)):
        for other in ((c, d), (d, c)):
            yield one + other
            yield other + one


class Meet(unittest.TestCase):
    def check(self, text, answer):
        for way in ways_of(*dots(text)):
            self.assertEqual(meet(*way), tuple(dots(answer)))

    def test_no_point_beside_one_another(self):
        self.check("0,0 1,1 2,0 3,-5", "")
        self.check("0,0 0,1 1,0 1,1", "")
        self.check("0,0 1,0 0,1 1,1", "")
        self.check("0,0 2,1 0,1 2,2", "")
        self.check("0,0 2,1 0,1/99 2,100/99", "")

    def test_no_point_on_one_line(self):
        self.check("0,0 1,1 2,2 3,3", "")
        self.check("0,0 0,1 0,2 0,3", "")
        self.check("0,0 1,0 3/2,0 7,0", "")
        self.check("0,0 1,-2 2,-4 3,-6", "")

    def test_lines_that_cross_off_the_sides(self):
        self.check("0,0 1,0 2,-1 2,1", "")
        self.check("0,0 1,0 0,1 3,1/2", "")
        self.check("0,0 2,2 3,0 2,1", "")
        self.check("0,0 4,0 1,1 2,1/99", "")

    def test_crossing(self):
        self.check("0,0 2,2 0,2 2,0", "1,1")
        self.check("0,0 1,1 0,1 1,1/2", "2/3,2/3")
        self.check("0,-1 0,1 -1,0 1,0", "0,0")
        self.check("1,0 1,3 0,0 2,1", "1,1/2")
        self.check("0,1 3,1 0,0 1,3", "1/3,1")

    def test_an_end_on_the_other(self):
        self.check("0,0 2,0 1,0 1,1", "1,0")
        self.check("0,0 0,2 0,1 5,3", "0,1")
        self.check("0,0 2,4 1,2 7,2", "1,2")
        self.check("0,0 3,1 1,1/3 0,5", "1,1/3")

    def test_ends_alike(self):
        self.check("0,0 2,1 0,0 1,2", "0,0")
        self.check("0,0 0,1 0,1 1,1", "0,1")
        self.check("1/2,1/3 5,5 1/2,1/3 -5,5", "1/2,1/3")

    def test_end_to_end_on_one_line(self):
        self.check("0,0 1,1 1,1 2,2", "1,1")
        self.check("0,0 0,1 0,1 0,5", "0,1")
        self.check("0,0 1,0 1,0 9,0", "1,0")

    def test_a_side_in_common(self):
        self.check("0,0 2,2 1,1 3,3", "1,1 2,2")
        self.check("0,0 0,3 0,1 0,4", "0,1 0,3")
        self.check("0,5 2,5 1,5 4,5", "1,5 2,5")
        self.check("0,3 3,0 1,2 2,1", "1,2 2,1")
        self.check("0,0 3,1 0,0 3/2,1/2", "0,0 3/2,1/2")
        self.check("0,0 3,1 3/2,1/2 3,1", "3/2,1/2 3,1")
        self.check("0,0 3,1 0,0 3,1", "0,0 3,1")
        self.check("0,4 0,-4 0,4 0,-4", "0,-4 0,4")

    def test_all_of_a_grid(self):
        sides = list(itertools.combinations(GRID, 2))
        for one in sides:
            for other in sides:
                answer = shared_by(*one, *other)
                self.assertEqual(meet(*one, *other), answer)
                self.assertEqual(meet(other[1], other[0], one[0], one[1]), answer)

    def test_some_with_long_numbers(self):
        chance = chance_of(4)
        crossed = 0
        for figures in (1, 2, 12, 300, 700):
            for number in range(20):
                a, b, c, d = [some_point(chance, figures) for four in "abcd"]
                if a != b and c != d:
                    answer = shared_by(a, b, c, d)
                    crossed += len(answer)
                    for way in ways_of(a, b, c, d):
                        self.assertEqual(meet(*way), answer)
        self.assertGreater(crossed, 9)

    def test_at_the_bounds(self):
        low, high = at(-FAR, -FAR), at(FAR, FAR)
        self.assertEqual(meet(low, high, at(-FAR, FAR), at(FAR, -FAR)), (at(0, 0),))
        self.assertEqual(meet(low, high, low, at(FAR, FAR - 1)), (low,))
        self.assertEqual(meet(low, high, at(-FAR + 1, -FAR), at(FAR, FAR - 1)), ())
        self.assertEqual(meet(low, high, at(-FAR, -FAR), at(FAR - 1, FAR - 1)), (low, at(FAR - 1, FAR - 1)))
        fine = [point_by(1, FAR - number, 10 ** 6 - number) for number in range(4)]
        for way in ways_of(*fine):
            self.assertEqual(meet(*way), shared_by(*fine))

    def test_hardly_touching(self):
        tiny = 10 ** 6
        self.assertEqual(meet(at(0, 0), at(1, 0), point_by(1, 0, tiny), at(0, 1)), (point_by(1, 0, tiny),))
        self.assertEqual(meet(at(0, 0), at(1, 0), point_by(1, 1, tiny), at(0, 1)), ())
        self.assertEqual(meet(at(0, 0), at(1, 0), point_by(tiny + 1, 0, tiny), at(2, 0)), ())

    def test_points_are_told(self):
        for p in meet(*dots("0,0 6,4 0,4 6,0")) + meet(*dots("0,0 4,4 2,2 6,6")):
            self.assertIs(is_point(p), True)
        self.assertIs(type(meet(*dots("0,0 4,4 2,2 6,6"))), tuple)
