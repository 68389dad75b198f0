import unittest
from fractions import Fraction

from plymap.bringing import brought_to
from plymap.faces import Faces
from plymap.net import Net
from plymap.own import rounds_of
from plymap.plans import is_plan, plan_of, rounds_under
from plymap.rings import rings_of, row_of
from plymap.threads import threads_of
from plymap.turns import round_sum
from tests.helper import (FORMS, PARTS, SQUARE, at, box, chance_of, corners_by, dots, faults_of, grid_ring, hot_by,
                          is_near, middle_by, place, plan_by, shared_by, some_plans, thread_by)


def some_sizes(plan):
    """Coarse and fine ones, by how far the plan reaches."""
    numbers = [number for p in corners_by(plan) for number in place(p)] or [Fraction(0), Fraction(1)]
    reach = max(numbers) - min(numbers)
    return [reach / 9, reach / 3, reach / 40, reach * Fraction(3, 7), reach * 3, Fraction(1), Fraction(2, 3)]


def askings(seed, many):
    """Plans with sizes to bring them to, as fractions."""
    found = []
    for plan in some_plans(seed, many):
        for size in some_sizes(plan):
            found.append((plan, (size.numerator, size.denominator)))
    return found


ASKINGS = askings(361, 8)


def brought_by(plan, size):
    """The brought plan, word by word."""
    hot = hot_by(plan, size)
    strokes = []
    for a, b, passes in plan[1]:
        row = [middle_by(cell, size) for cell in thread_by(a, b, hot, size)]
        strokes.extend([(u, v, passes) for u, v in zip(row, row[1:])])
    return plan_by(plan[0], strokes)


class Brought(unittest.TestCase):
    def test_on_the_grid_already(self):
        for name in ("square", "hole", "within", "side by side", "bow", "own corner again"):
            plan = plan_of([FORMS[name]])
            for size in ((1, 1), (1, 2), (1, 7)):
                self.assertEqual(brought_to(plan, size), plan)

    def test_corners_move_to_middles(self):
        plan = plan_of([[dots("1/5,-1/5 21/5,1/10 19/5,39/10 -1/10,41/10")]])
        self.assertEqual(brought_to(plan, (1, 1)), plan_of([[SQUARE]]))
        self.assertEqual(brought_to(plan, (4, 1)), plan_of([[SQUARE]]))
        self.assertEqual(brought_to(plan, (2, 1)), plan_of([[SQUARE]]))

    def test_a_side_is_drawn_to_a_near_corner(self):
        plan = plan_of([[dots("0,0 9,0 9,9 0,9")], [dots("5,1/4 6,2 4,2")]])
        told = brought_to(plan, (1, 1))
        self.assertEqual(told, plan_of([[dots("0,0 9,0 9,9 0,9")], [dots("5,0 6,2 4,2")]]))

    def test_a_crossing_moves_to_its_middle(self):
        plan = plan_of([[dots("0,0 3,1 0,3")], [dots("3,0 3,3 0,1")]])
        told = brought_to(plan, (1, 1))
        self.assertEqual(told, brought_by(plan, (1, 1)))
        self.assertEqual([p for p in corners_by(told) if p[2] != 1], [])

    def test_plans_that_fall_together_to_nothing(self):
        for name in ("square", "bow", "hole", "star", "twice round"):
            for size in ((100, 1), (1000, 3), (10 ** 40, 1)):
                self.assertEqual(brought_to(plan_of([FORMS[name], FORMS["bow"]]), size), (2, []))
        self.assertEqual(brought_to(plan_of([PARTS["sliver"]]), (5, 1)), (1, []))
        self.assertEqual(brought_to(plan_of([[box(0, 0, "1/3", 50)]]), (1, 1)), (1, []))

    def test_parts_that_fall_together_to_nothing(self):
        plan = plan_of([[SQUARE, box(8, 0, "33/4", 9)], [box(1, 1, "5/4", "5/4")]])
        self.assertEqual(brought_to(plan, (1, 1)), plan_of([[SQUARE], []]))

    def test_of_no_pieces(self):
        for many in (0, 1, 5):
            for size in ((1, 1), (1, 9), (9, 1)):
                self.assertEqual(brought_to((many, []), size), (many, []))

    def test_passes_add_up(self):
        plan = plan_of([[box(0, 0, 4, 4)], [box(0, 0, "17/4", 4), box("-1/4", 0, 4, 4)], [box(4, 4, 0, 0)[::-1]]])
        told = brought_to(plan, (1, 1))
        self.assertEqual(told, plan_of([[SQUARE], [SQUARE, SQUARE], [SQUARE[::-1]]]))

    def test_word_by_word(self):
        for plan, size in ASKINGS:
            if len(plan[1]) < 40:
                self.assertEqual(brought_to(plan, size), brought_by(plan, size))

    def test_is_a_plan(self):
        for plan, size in ASKINGS:
            told = brought_to(plan, size)
            self.assertEqual(told[0], plan[0])
            self.assertIs(is_plan(told), True)
            if len(told[1]) < 80:
                self.assertEqual(faults_of(told), [])
            for p in corners_by(told):
                self.assertEqual([(number / Fraction(*size)).denominator for number in place(p)], [1, 1])

    def test_nothing_is_changed(self):
        plan = plan_of([FORMS["bow"]])
        told = brought_to(plan, (1, 3))
        told[1].clear()
        self.assertEqual(plan, plan_of([FORMS["bow"]]))
        self.assertNotEqual(brought_to(plan, (1, 3)), told)


class Promised(unittest.TestCase):
    def test_no_two_sides_between_middles_cross_anew(self):
        met = 0
        for plan, size in ASKINGS:
            sides = set()
            for thread in threads_of(plan, size):
                row = [middle_by(cell, size) for cell in thread]
                sides.update([tuple(sorted(ends, key=place)) for ends in zip(row, row[1:])])
            row = sorted(sides, key=lambda ends: place(ends[0]))
            for k, (a, b) in enumerate(row):
                for c, d in row[k + 1:]:
                    if place(c)[0] > place(b)[0]:
                        break
                    shared = shared_by(a, b, c, d)
                    if shared:
                        self.assertEqual(len(shared), 1)
                        self.assertIn(shared[0], (a, b))
                        self.assertIn(shared[0], (c, d))
                        met += 1
        self.assertGreater(met, 1000)

    def test_no_ring_is_turned_over(self):
        kinds = {}
        for plan, size in ASKINGS:
            net, threads = Net(plan), threads_of(plan, size)
            for ring in rings_of(net):
                row = []
                for half in ring:
                    thread = threads[half // 2] if half % 2 == 0 else threads[half // 2][::-1]
                    row.extend([middle_by(cell, size) for cell in thread])
                rim = round_sum(row_of(net, ring))[0] > 0
                told = round_sum(row)[0]
                self.assertTrue(told >= 0 if rim else told <= 0)
                kinds[(rim, told != 0)] = kinds.get((rim, told != 0), 0) + 1
        self.assertGreater(min(kinds.values()), 100)
        self.assertEqual(len(kinds), 4)

    def test_no_face_has_rounds_that_no_face_had(self):
        for plan, size in ASKINGS:
            ahead, behind = Faces(Net(plan)), Faces(Net(brought_to(plan, size)))
            rounds = {rounds_of(ahead, f) for f in range(ahead.many())}
            for f in range(behind.many()):
                self.assertIn(rounds_of(behind, f), rounds)

    def test_rounds_stay_far_from_pieces(self):
        far, rounds = 0, {}
        for plan, size in ASKINGS:
            told = brought_to(plan, size)
            spots = [place(p) for p in corners_by(plan)]
            numbers = [number for spot in spots for number in spot] or [Fraction(0)]
            low, step = min(numbers) - 1, (max(numbers) - min(numbers) + 2) / 7
            for x in range(8):
                for y in range(8):
                    p = at(low + x * step, low + y * step)
                    if not is_near(plan, p, size):
                        under = rounds_under(plan, p)
                        self.assertEqual(rounds_under(told, p), under)
                        far += 1
                        rounds[under] = rounds.get(under, 0) + 1
        self.assertGreater(far, 1000)
        self.assertGreater(len(rounds), 10)

    def test_half_a_size_away(self):
        """A point just farther than half a size from a side keeps its rounds; one nearer may not."""
        plan = plan_of([[box(0, 0, "9/2", 4)]])
        told = brought_to(plan, (1, 1))
        self.assertEqual(told, plan_of([[box(0, 0, 5, 4)]]))
        for x, stays in (("3999/1000", True), ("5001/1000", True), ("49/10", False)):
            p = at(x, 2)
            self.assertEqual(is_near(plan, p, (1, 1)), not stays)
            self.assertEqual(rounds_under(told, p) == rounds_under(plan, p), stays)

    def test_rings_by_chance_on_grids_of_halves(self):
        """Corners on the bounds of cells, in x, in y and in both."""
        chance = chance_of(362)
        for number in range(25):
            layers = [[grid_ring(chance, 6, 6, (1, 2, 2, 3))] for layer in range(3)]
            plan = plan_of(layers)
            for size in ((1, 1), (3, 2), (2, 1)):
                told = brought_to(plan, size)
                self.assertEqual(told, brought_by(plan, size))
                ahead, behind = Faces(Net(plan)), Faces(Net(told))
                rounds = {rounds_of(ahead, f) for f in range(ahead.many())}
                self.assertEqual([f for f in range(behind.many()) if rounds_of(behind, f) not in rounds], [])
