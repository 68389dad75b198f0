import unittest

from plymap.cells import cell_of, hot_cells
from plymap.plans import plan_of
from plymap.threads import thread_of, threads_of
from tests.helper import (FORMS, SQUARE, as_fraction, at, cell_by, chance_of, dots, hot_by, place, some_plans,
                          some_point,
                          thread_by)

SIZES = [(1, 1), (2, 1), (1, 2), (3, 2), (5, 1), (2, 7)]
ALL = [(i, j) for i in range(-4, 5) for j in range(-4, 5)]


class Threads(unittest.TestCase):
    def check(self, text, cells, thread, size=(1, 1)):
        p, q = dots(text)
        self.assertEqual(thread_of(p, q, cells, size), thread)
        self.assertEqual(thread_of(q, p, cells, size), thread[::-1])

    def test_level_upright_and_slanted(self):
        self.check("-1,0 2,0", ALL, [(-1, 0), (0, 0), (1, 0), (2, 0)])
        self.check("0,-1 0,2", ALL, [(0, -1), (0, 0), (0, 1), (0, 2)])
        self.check("0,0 2,1", ALL, [(0, 0), (1, 0), (1, 1), (2, 1)])
        self.check("0,0 2,-1", ALL, [(0, 0), (1, 0), (1, -1), (2, -1)])
        self.check("0,0 1,3", ALL, [(0, 0), (0, 1), (1, 2), (1, 3)])

    def test_through_corners_of_cells(self):
        self.check("0,0 2,2", ALL, [(0, 0), (1, 1), (2, 2)])
        self.check("0,2 2,0", ALL, [(0, 2), (1, 2), (1, 1), (2, 1), (2, 0)])
        self.check("-1/2,-1/2 -2,-2", ALL, [(0, 0), (-1, -1), (-2, -2)])

    def test_along_bounds(self):
        self.check("1/2,0 1/2,2", ALL, [(1, 0), (1, 1), (1, 2)])
        self.check("0,1/2 2,1/2", ALL, [(0, 1), (1, 1), (2, 1)])
        self.check("1/2,1/2 -1,1/2", ALL, [(1, 1), (0, 1), (-1, 1)])

    def test_cells_in_any_row_and_some_not_met(self):
        self.check("0,0 3,0", [(3, 0), (1, 0), (0, 5), (0, 0), (2, 7), (2, 0), (9, 9)],
                   [(0, 0), (1, 0), (2, 0), (3, 0)])
        self.check("0,0 3,0", [(2, 0), (1, 0)], [(1, 0), (2, 0)])
        self.check("0,0 3,0", [(4, 0), (-1, 0), (1, 1)], [])
        self.check("0,0 3,0", [], [])

    def test_each_cell_once(self):
        self.check("0,0 3,0", [(1, 0), (3, 0), (1, 0), (1, 0), (3, 0)], [(1, 0), (3, 0)])

    def test_within_one_cell(self):
        self.check("0,0 1/4,1/4", ALL, [(0, 0)])
        self.check("0,0 1,1", ALL, [(0, 0)], (10, 1))
        self.check("-5,-5 49/10,49/10", ALL, [(0, 0)], (10, 1))

    def test_handed_in_cells_stay(self):
        cells = [(3, 0), (0, 0), (0, 0)]
        thread_of(at(0, 0), at(3, 0), cells, (1, 1)).clear()
        self.assertEqual(cells, [(3, 0), (0, 0), (0, 0)])

    def test_by_stations(self):
        chance = chance_of(351)
        lengths = {}
        for number in range(250):
            size = chance.choice(SIZES)
            p, q = some_point(chance), some_point(chance)
            if chance.random() < 0.6:
                p, q = [at(*[k * as_fraction(size) / 2 for k in (chance.randrange(-7, 8), chance.randrange(-7, 8))])
                        for end in range(2)]
            if p == q:
                continue
            cells = chance.sample(ALL, chance.choice([10, 40, 81]))
            thread = thread_of(p, q, cells, size)
            self.assertEqual(thread, thread_by(p, q, cells, size))
            self.assertEqual(thread_of(q, p, cells, size), thread[::-1])
            lengths[len(thread)] = lengths.get(len(thread), 0) + 1
        self.assertGreater(len(lengths), 6)

    def test_large_numbers(self):
        many = 10 ** 299
        cells = [(0, 0), (many // 2, 0), (1, 0), (many, 0), (many, 1), (many + 1, 0)]
        self.assertEqual(thread_of((0, 0, 1), (1, 0, 1), cells, (1, many)), [(0, 0), (1, 0), (many // 2, 0), (many, 0)])


class OfPlans(unittest.TestCase):
    def test_a_square(self):
        plan = plan_of([[SQUARE]])
        self.assertEqual(threads_of(plan, (1, 1)), [[(0, 0), (0, 4)], [(0, 0), (4, 0)], [(0, 4), (4, 4)],
                                                    [(4, 0), (4, 4)]])
        self.assertEqual(threads_of(plan, (100, 1)), [[(0, 0)]] * 4)
        self.assertEqual(threads_of((2, []), (1, 1)), [])

    def test_a_thread_goes_through_hot_cells_of_others(self):
        plan = plan_of([[dots("0,0 9,0 9,9 0,9")], [dots("5,1/4 6,2 4,2")]])
        self.assertIn([(0, 0), (5, 0), (9, 0)], threads_of(plan, (1, 1)))

    def test_alike_threads_are_not_shared(self):
        threads = threads_of(plan_of([[SQUARE]]), (100, 1))
        threads[0].append(None)
        self.assertEqual(threads[1:], [[(0, 0)]] * 3)

    def test_in_the_row_of_the_plan(self):
        for plan in some_plans(352, 6):
            xs = [abs(number) for piece in plan[1] for number in place(piece[1])]
            for size in [(1, 1), (3, 2), (1, 3), (5, 1)] if max(xs, default=0) < 100 else [(10 ** 5, 1), (10 ** 11, 7)]:
                hot, threads = hot_by(plan, size), threads_of(plan, size)
                self.assertEqual(hot, hot_cells(plan, size))
                self.assertEqual(len(threads), len(plan[1]))
                for (a, b, passes), thread in zip(plan[1], threads):
                    self.assertEqual([thread[0], thread[-1]], [cell_of(a, size), cell_of(b, size)])
                    self.assertEqual(thread[0], cell_by(a, size))
                    if len(hot) < 60:
                        self.assertEqual(thread, thread_by(a, b, hot, size))

    def test_nothing_is_changed(self):
        plan = plan_of([FORMS["bow"]])
        threads_of(plan, (1, 1)).clear()
        self.assertEqual(plan, plan_of([FORMS["bow"]]))
