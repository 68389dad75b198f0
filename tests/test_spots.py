import unittest

from plymap.points import is_point
from plymap.spots import cut_at, spots_of
from tests.helper import at, chance_of, dots, grid_ring, is_on, place, ring_sides, some_point, spots_by


def strokes_by(text):
    """Strokes written as 0,0 1,1; 2,2 3,3; .."""
    return [(p, q, (1,)) for p, q in [dots(part) for part in text.split(";")]]


class Spots(unittest.TestCase):
    def check(self, text, answer):
        strokes = strokes_by(text)
        for row in (strokes, strokes[::-1], [(q, p, passes) for p, q, passes in strokes]):
            self.assertEqual(spots_of(row), dots(answer))

    def test_of_none_and_one(self):
        self.assertEqual(spots_of([]), [])
        self.check("1,0 0,0", "0,0 1,0")

    def test_apart(self):
        self.check("0,0 1,0; 0,1 1,1", "0,0 0,1 1,0 1,1")
        self.check("0,0 1,0; 2,0 3,0", "0,0 1,0 2,0 3,0")

    def test_crossing(self):
        self.check("0,0 2,2; 0,2 2,0", "0,0 0,2 1,1 2,0 2,2")
        self.check("0,0 3,1; 1,1 1,-1; 2,1 2,-1", "0,0 1,-1 1,1/3 1,1 2,-1 2,2/3 2,1 3,1")
        self.check("0,0 2,2; 0,2 2,0; 1,0 1,2; 0,1 2,1", "0,0 0,1 0,2 1,0 1,1 1,2 2,0 2,1 2,2")

    def test_touching(self):
        self.check("0,0 2,0; 1,0 1,1", "0,0 1,0 1,1 2,0")
        self.check("0,0 2,0; 2,0 3,1", "0,0 2,0 3,1")
        self.check("0,0 2,0; 2,0 5,0", "0,0 2,0 5,0")
        self.check("0,0 0,2; 0,2 5,2", "0,0 0,2 5,2")
        self.check("2,0 2,2; 0,2 2,2", "0,2 2,0 2,2")

    def test_overlapping(self):
        self.check("0,0 2,2; 1,1 3,3", "0,0 1,1 2,2 3,3")
        self.check("0,0 3,3; 1,1 2,2", "0,0 1,1 2,2 3,3")
        self.check("0,0 0,3; 0,3 0,0; 0,1 0,2", "0,0 0,1 0,2 0,3")
        self.check("0,0 1,0; 0,0 1,0", "0,0 1,0")

    def test_of_many(self):
        chance = chance_of(21)
        for number in range(40):
            sides = ring_sides([grid_ring(chance, 8) for ring in range(number % 4 + 1)])
            strokes = [(p, q, (1, -2)) for p, q in sides]
            spots = spots_of(strokes)
            self.assertEqual(spots, spots_by(strokes))
            self.assertTrue(all([is_point(spot) for spot in spots]))

    def test_of_long_numbers(self):
        chance = chance_of(22)
        for figures in (12, 150):
            strokes = [(some_point(chance, figures), some_point(chance, figures), (1,)) for ten in range(10)]
            self.assertEqual(spots_of(strokes), spots_by(strokes))

    def test_what_is_handed_in_stays(self):
        strokes = strokes_by("2,2 0,0; 0,2 2,0")
        spots = spots_of(strokes)
        spots.clear()
        self.assertEqual(strokes, strokes_by("2,2 0,0; 0,2 2,0"))
        self.assertEqual(spots_of(strokes), dots("0,0 0,2 1,1 2,0 2,2"))


class Cuts(unittest.TestCase):
    def check(self, side, points, answer):
        p, q = dots(side)
        self.assertEqual(cut_at(p, q, dots(points)), dots(answer))
        self.assertEqual(cut_at(q, p, dots(points)), dots(answer)[::-1])

    def test_from_either_end(self):
        self.check("0,0 3,3", "2,2 0,0 1,1 3,3", "0,0 1,1 2,2 3,3")
        self.check("0,0 0,3", "0,2 0,0 0,1 0,3", "0,0 0,1 0,2 0,3")
        self.check("0,3 3,0", "2,1 0,3 1,2 3,0", "0,3 1,2 2,1 3,0")
        self.check("0,1/3 1,1/3", "1/2,1/3 1/3,1/3", "1/3,1/3 1/2,1/3")

    def test_ends_only_where_they_are_among_the_points(self):
        self.check("0,0 2,0", "1,0", "1,0")
        self.check("0,0 2,0", "1,0 2,0", "1,0 2,0")
        self.check("0,0 2,0", "0,0 1,0", "0,0 1,0")
        self.check("0,0 2,0", "0,0 2,0", "0,0 2,0")

    def test_none(self):
        self.check("0,0 2,0", "", "")
        self.check("0,0 2,0", "1,1 3,0 -1,0 1,1/99", "")

    def test_points_off_the_side_and_told_twice(self):
        self.check("0,0 2,2", "1,1 3,3 1,1 -1,-1 1,2 0,0 2,2 2,2", "0,0 1,1 2,2")

    def test_many(self):
        chance = chance_of(23)
        for number in range(100):
            p, q = some_point(chance), some_point(chance)
            if p != q:
                points = [some_point(chance) for ten in range(10)]
                (xp, yp), (xq, yq) = place(p), place(q)
                for k in range(-2, 9):
                    points.append(at(xp + (xq - xp) * k / 6, yp + (yq - yp) * k / 6))
                chance.shuffle(points)
                row = sorted({z for z in points if is_on(z, p, q)}, key=place, reverse=place(p) > place(q))
                self.assertEqual(cut_at(p, q, points), row)

    def test_what_is_handed_in_stays(self):
        for text in ("0,0 1,0 2,0", "2,0 1,0 0,0", "1,0 1,0"):
            points = dots(text)
            for p, q in (dots("0,0 2,0"), dots("2,0 0,0")):
                row = cut_at(p, q, points)
                kept = list(row)
                row.clear()
                self.assertEqual(points, dots(text))
                self.assertEqual(cut_at(p, q, points), kept)
