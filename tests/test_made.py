import unittest

from plymap.made import made_of
from tests.helper import (at, chance_of, dots, faults_of, grid_ring, pieces_by, plan_by, ring_sides,
                          rounds_of_strokes, samples, star)

SQUARE = dots("0,0 2,0 2,2 0,2")


def strokes_of(ring, passes):
    return [(p, q, passes) for p, q in ring_sides([ring])]


class Plain(unittest.TestCase):
    def test_of_none(self):
        for many in (0, 1, 8):
            self.assertEqual(made_of(many, []), (many, []))

    def test_of_a_square(self):
        pieces = pieces_by("0,0 0,2 -1; 0,0 2,0 1; 0,2 2,2 -1; 2,0 2,2 1")
        self.assertEqual(made_of(1, strokes_of(SQUARE, (1,))), (1, pieces))
        self.assertEqual(made_of(1, strokes_of(SQUARE[::-1], (-1,))), (1, pieces))

    def test_kinds(self):
        plan = made_of(1, strokes_of(SQUARE, (1,)))
        self.assertEqual([type(plan), type(plan[0]), type(plan[1])], [tuple, int, list])
        for piece in plan[1]:
            self.assertEqual([type(part) for part in (piece,) + piece], [tuple] * 4)

    def test_passes_of_nought_below_nought_and_above_one(self):
        for passes in ((0, 1), (-3, 2), (5, 0), (7, -7), (10 ** 30, 1)):
            there, back = passes, tuple([-number for number in passes])
            self.assertEqual(made_of(2, strokes_of(SQUARE, passes)), (2, [
                (at(0, 0), at(0, 2), back), (at(0, 0), at(2, 0), there),
                (at(0, 2), at(2, 2), back), (at(2, 0), at(2, 2), there)]))

    def test_strokes_that_pass_nothing_leave_no_piece(self):
        self.assertEqual(made_of(2, strokes_of(SQUARE, (0, 0))), (2, []))
        self.assertEqual(made_of(0, strokes_of(SQUARE, ())), (0, []))

    def test_strokes_that_pass_nothing_cut_nothing_for_good(self):
        strokes = strokes_of(SQUARE, (1,)) + strokes_of(dots("1,-1 1,3 5,5"), (0,))
        self.assertEqual(made_of(1, strokes), made_of(1, strokes_of(SQUARE, (1,))))

    def test_order_by_a_then_by_b(self):
        strokes = strokes_of(dots("0,0 3,-1 3,1"), (1,)) + strokes_of(dots("0,0 -1,3 -3,1"), (1,))
        strokes = strokes + strokes_of(dots("0,0 1,5 1,6"), (1,))
        pieces = made_of(1, strokes)[1]
        self.assertEqual([piece[:2] for piece in pieces], [tuple(dots(text)) for text in (
            "-3,1 -1,3", "-3,1 0,0", "-1,3 0,0", "0,0 1,5", "0,0 1,6", "0,0 3,-1", "0,0 3,1", "1,5 1,6", "3,-1 3,1")])


class There(unittest.TestCase):
    def test_there_and_back_vanishes(self):
        self.assertEqual(made_of(1, strokes_of(dots("0,0 4,1"), (1,))), (1, []))
        self.assertEqual(made_of(1, strokes_of(dots("0,0 4,0 1,0 3,0"), (1,))), (1, []))
        self.assertEqual(made_of(1, strokes_of(SQUARE, (1,)) + strokes_of(SQUARE[::-1], (1,))), (1, []))

    def test_partly_back(self):
        ring = dots("0,0 2,0 2,2 1,2 1,5 1,2 0,2")
        self.assertEqual(made_of(1, strokes_of(ring, (1,))), made_of(1, strokes_of(SQUARE, (1,))))

    def test_two_squares_side_by_side(self):
        strokes = strokes_of(SQUARE, (1,)) + strokes_of(dots("2,0 4,0 4,2 2,2"), (1,))
        pieces = pieces_by("0,0 0,2 -1; 0,0 4,0 1; 0,2 4,2 -1; 4,0 4,2 1")
        self.assertEqual(made_of(1, strokes), (1, pieces))

    def test_two_layers_side_by_side(self):
        strokes = strokes_of(SQUARE, (1, 0)) + strokes_of(dots("2,0 4,0 4,2 2,2"), (0, 1))
        pieces = pieces_by("0,0 0,2 -1 0; 0,0 2,0 1 0; 0,2 2,2 -1 0; 2,0 2,2 1 -1; 2,0 4,0 0 1; 2,2 4,2 0 -1;"
                           "4,0 4,2 0 1")
        self.assertEqual(made_of(2, strokes), (2, pieces))

    def test_overlap_in_part(self):
        strokes = strokes_of(dots("0,0 3,0 0,3"), (1,)) + strokes_of(dots("2,0 1,0 1,-1"), (1,))
        pieces = pieces_by("0,0 0,3 -1; 0,0 1,0 1; 0,3 3,0 -1; 1,-1 1,0 -1; 1,-1 2,0 1; 2,0 3,0 1")
        self.assertEqual(made_of(1, strokes), (1, pieces))

    def test_overlap_the_same_way(self):
        strokes = strokes_of(dots("0,0 3,0 0,3"), (1,)) + strokes_of(dots("1,0 2,0 2,-1"), (1,))
        pieces = pieces_by("0,0 0,3 -1; 0,0 1,0 1; 0,3 3,0 -1; 1,0 2,-1 -1; 1,0 2,0 2; 2,-1 2,0 -1; 2,0 3,0 1")
        self.assertEqual(made_of(1, strokes), (1, pieces))


class Straight(unittest.TestCase):
    def test_a_point_on_a_side(self):
        for text in ("0,0 1,0 2,0 2,2 0,2", "0,0 2,0 2,1 2,2 0,2", "0,0 1/3,0 1/2,0 1,0 2,0 2,2 1,2 0,2 0,1"):
            self.assertEqual(made_of(1, strokes_of(dots(text), (1,))), made_of(1, strokes_of(SQUARE, (1,))))

    def test_slanted_in_a_row(self):
        ring = dots("0,0 3,1 6,2 9,3 12,4 0,9 0,6 0,3")
        pieces = pieces_by("0,0 0,9 -1; 0,0 12,4 1; 0,9 12,4 -1")
        self.assertEqual(made_of(1, strokes_of(ring, (1,))), (1, pieces))

    def test_four_pieces_at_one_point(self):
        bow = dots("0,0 2,2 2,0 0,2")
        pieces = pieces_by("0,0 0,2 -1; 0,0 1,1 1; 0,2 1,1 -1; 1,1 2,0 -1; 1,1 2,2 1; 2,0 2,2 -1")
        self.assertEqual(made_of(1, strokes_of(bow, (1,))), (1, pieces))

    def test_three_pieces_at_one_point(self):
        strokes = strokes_of(dots("0,0 4,0 4,2 0,2"), (1, 0)) + strokes_of(dots("1,0 3,0 2,1"), (0, 1))
        pieces = pieces_by("0,0 0,2 -1 0; 0,0 1,0 1 0; 0,2 4,2 -1 0; 1,0 2,1 0 -1; 1,0 3,0 1 1; 2,1 3,0 0 -1;"
                           "3,0 4,0 1 0; 4,0 4,2 1 0")
        self.assertEqual(made_of(2, strokes), (2, pieces))

    def test_touched_at_a_point_of_a_side(self):
        strokes = strokes_of(dots("0,0 4,0 4,2 0,2"), (1,)) + strokes_of(dots("2,0 1,-1 3,-1"), (1,))
        pieces = pieces_by("0,0 0,2 -1; 0,0 2,0 1; 0,2 4,2 -1; 1,-1 2,0 -1; 1,-1 3,-1 1; 2,0 3,-1 -1; 2,0 4,0 1;"
                           "4,0 4,2 1")
        self.assertEqual(made_of(1, strokes), (1, pieces))

    def test_a_point_of_two_pieces_that_is_no_straight_one(self):
        strokes = strokes_of(dots("0,0 2,0 1,1"), (1,))
        self.assertEqual(len(made_of(1, strokes)[1]), 3)

    def test_what_vanishes_leaves_straight_points(self):
        strokes = strokes_of(SQUARE, (1,)) + strokes_of(dots("1,-1 1,1"), (1,)) + strokes_of(dots("0,1 2,1"), (1,))
        self.assertEqual(made_of(1, strokes), made_of(1, strokes_of(SQUARE, (1,))))


class Many(unittest.TestCase):
    def check(self, many, strokes):
        kept = list(strokes)
        plan = made_of(many, strokes)
        self.assertEqual(strokes, kept)
        self.assertEqual(plan, plan_by(many, strokes))
        self.assertEqual(faults_of(plan), [])
        for p in samples(strokes)[::7]:
            self.assertEqual(rounds_of_strokes(many, plan[1], p), rounds_of_strokes(many, strokes, p))

    def test_rings_on_few_places(self):
        chance = chance_of(31)
        for number in range(70):
            many = number % 3 + 1
            strokes = []
            for ring in range(chance.randrange(1, 4)):
                passes = tuple([chance.choice([-2, -1, 0, 0, 1, 1, 3]) for layer in range(many)])
                strokes.extend(strokes_of(grid_ring(chance, 5, 3), passes))
            chance.shuffle(strokes)
            self.check(many, strokes)

    def test_rings_along_one_line(self):
        chance = chance_of(32)
        for number in range(30):
            strokes = []
            for ring in range(3):
                places = [chance.randrange(7) for point in range(4)]
                if all([places[k] != places[k - 1] for k in range(4)]):
                    line = [at(2 * k, 3 * k) for k in places]
                    strokes.extend(strokes_of(line, (1, chance.randrange(-1, 2))))
            strokes.extend(strokes_of(dots("0,0 6,9 12,18 0,18"), (chance.randrange(-1, 2), 1)))
            self.check(2, strokes)

    def test_strokes_that_turn_about(self):
        chance = chance_of(33)
        for number in range(20):
            strokes = strokes_of(grid_ring(chance, 6, 3), (1,)) + strokes_of(grid_ring(chance, 6, 3), (2,))
            turned = [(q, p, (-passes[0],)) for p, q, passes in strokes]
            plan = made_of(1, strokes)
            self.assertEqual(made_of(1, turned), plan)
            self.assertEqual(made_of(1, plan[1]), plan)
            self.assertEqual(made_of(1, strokes + turned), (1, [(a, b, (2 * n[0],)) for a, b, n in plan[1]]))

    def test_a_star(self):
        strokes = strokes_of(star((0, 0), 1, 1, 5), (1,))
        self.check(1, strokes)

    def test_told_lists_are_new(self):
        strokes = strokes_of(SQUARE, (1,))
        plan = made_of(1, strokes)
        kept = list(plan[1])
        plan[1].clear()
        self.assertEqual(made_of(1, strokes), (1, kept))
        again = made_of(1, kept)
        again[1].pop()
        self.assertEqual(len(kept), 4)
