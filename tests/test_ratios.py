import unittest
from fractions import Fraction
from math import gcd

from plymap.errors import NoNumber
from plymap.ratios import fraction, is_below, is_fraction, minus, plus, times, total_of
from tests.helper import as_fraction, chance_of, odd_things, some_number, told

SMALL = [(top, bottom) for top in range(-7, 8) for bottom in range(1, 8) if gcd(top, bottom) == 1]
MOST = 10 ** 700 - 1


def some_fractions(seed, many, figures):
    chance = chance_of(seed)
    found = []
    for number in range(many):
        bottom = chance.randrange(1, 10 ** figures)
        found.append(told(Fraction(some_number(chance, figures), bottom)))
    return found


BIG = some_fractions(5, 12, 700) + [(MOST, 1), (1, MOST), (-MOST, MOST - 1), (0, 1)]


class Made(unittest.TestCase):
    def test_of_small_numbers_of_every_sign(self):
        for top in range(-24, 25):
            for bottom in list(range(-24, 0)) + list(range(1, 25)):
                self.assertEqual(fraction(top, bottom), told(Fraction(top, bottom)))

    def test_examples(self):
        self.assertEqual(fraction(2, -4), (-1, 2))
        self.assertEqual(fraction(-2, -4), (1, 2))
        self.assertEqual(fraction(0, -9), (0, 1))
        self.assertEqual(fraction(0, 9), (0, 1))
        self.assertEqual(fraction(6, 3), (2, 1))

    def test_is_a_tuple_of_ints(self):
        one = fraction(6, 4)
        self.assertEqual([type(one), type(one[0]), type(one[1])], [tuple, int, int])

    def test_of_long_numbers(self):
        chance = chance_of(1)
        for figures in (30, 300, 700):
            for number in range(10):
                shared = chance.randrange(1, 10 ** chance.randrange(1, 200))
                top = some_number(chance, figures) * shared
                bottom = chance.choice([-1, 1]) * chance.randrange(1, 10 ** figures) * shared
                self.assertEqual(fraction(top, bottom), told(Fraction(top, bottom)))
        self.assertEqual(fraction(MOST, MOST), (1, 1))
        self.assertEqual(fraction(MOST, -1), (-MOST, 1))
        self.assertEqual(fraction(1, -MOST), (-1, MOST))

    def test_bottom_of_nought_is_refused(self):
        for top in (0, 1, -1, 5, MOST):
            with self.assertRaises(NoNumber):
                fraction(top, 0)


class Reckoned(unittest.TestCase):
    def check(self, one, other):
        first, second = as_fraction(one), as_fraction(other)
        self.assertEqual(plus(one, other), told(first + second))
        self.assertEqual(minus(one, other), told(first - second))
        self.assertEqual(times(one, other), told(first * second))
        self.assertIs(is_below(one, other), first < second)

    def test_small_ones(self):
        for one in SMALL:
            for other in SMALL:
                self.check(one, other)

    def test_long_ones(self):
        for one in BIG:
            for other in BIG:
                self.check(one, other)

    def test_bottoms_that_share_much(self):
        chance = chance_of(2)
        for number in range(300):
            bottoms = [2 ** chance.randrange(9) * 3 ** chance.randrange(5) * 5 ** chance.randrange(3) for two in "ab"]
            one, other = [told(Fraction(chance.randrange(-999, 999), bottom)) for bottom in bottoms]
            self.check(one, other)

    def test_a_fraction_and_itself(self):
        for one in SMALL + BIG:
            self.assertIs(is_below(one, one), False)
            self.assertEqual(minus(one, one), (0, 1))

    def test_hardly_unlike(self):
        self.assertIs(is_below((MOST - 2, MOST - 1), (MOST - 1, MOST)), True)
        self.assertIs(is_below((MOST - 1, MOST), (MOST - 2, MOST - 1)), False)
        self.assertIs(is_below((1 - MOST, MOST), (2 - MOST, MOST - 1)), True)


class Totals(unittest.TestCase):
    def test_of_none_and_one(self):
        self.assertEqual(total_of([]), (0, 1))
        for one in SMALL + BIG:
            self.assertEqual(total_of([one]), one)

    def test_of_many(self):
        for many in (2, 3, 10, 299, 300):
            for figures in (1, 3, 40):
                row = some_fractions(many, many, figures)
                self.assertEqual(total_of(row), told(sum([as_fraction(one) for one in row], Fraction(0))))

    def test_of_long_ones(self):
        self.assertEqual(total_of(BIG), told(sum([as_fraction(one) for one in BIG])))

    def test_that_comes_to_nothing(self):
        row = some_fractions(4, 20, 9)
        self.assertEqual(total_of(row + [(-top, bottom) for top, bottom in row]), (0, 1))

    def test_of_one_fraction_several_times(self):
        self.assertEqual(total_of([(1, 300)] * 300), (1, 1))
        self.assertEqual(total_of([(-1, 6)] * 4), (-2, 3))

    def test_what_is_handed_in_stays(self):
        row = [(1, 2), (-1, 3), (1, 2)]
        self.assertEqual(total_of(row), (2, 3))
        self.assertEqual(row, [(1, 2), (-1, 3), (1, 2)])
        self.assertEqual(total_of(row), (2, 3))


class Asked(unittest.TestCase):
    def test_fractions(self):
        for one in SMALL + BIG:
            self.assertIs(is_fraction(one), True)

    def test_all_small_tuples(self):
        for top in range(-9, 10):
            for bottom in range(-9, 10):
                good = bottom > 0 and gcd(top, bottom) == 1
                self.assertIs(is_fraction((top, bottom)), good, (top, bottom))

    def test_not_in_lowest_terms(self):
        for thing in ((0, 2), (2, 2), (-3, 9), (4, 6), (MOST, MOST), (3 * MOST, 3), (0, MOST)):
            self.assertIs(is_fraction(thing), False)

    def test_bottom_of_nought_or_below(self):
        for thing in ((1, 0), (0, 0), (-1, 0), (1, -1), (0, -1), (-1, -2), (1, -MOST)):
            self.assertIs(is_fraction(thing), False)

    def test_more_or_fewer_parts(self):
        for thing in ((), (1,), (1, 2, 3), (1, 2, 1), (1, 1, 1), [1, 2], [0, 1], ((1, 2),), "12"):
            self.assertIs(is_fraction(thing), False)

    def test_truths_in_a_parts_place(self):
        for thing in ((True, 2), (False, 1), (1, True), (0, True), (True, True), (2, True), True, False):
            self.assertIs(is_fraction(thing), False)

    def test_whatever_else(self):
        for thing in odd_things():
            self.assertIs(is_fraction(thing), False)

    def test_what_was_told(self):
        for one in BIG[:6]:
            for other in BIG[:6]:
                for made in (plus(one, other), minus(one, other), times(one, other)):
                    self.assertIs(is_fraction(made), True)
