import unittest

from plymap.atlas import Atlas
from plymap.crossings import fewest
from plymap.errors import NoGround
from tests.helper import (FORMS, PARTS, SQUARE, Ground, all_told, at, box, chance_of, dots, faults_between, grid_ring,
                          points_about, refusal, shared_by, star)
from tests.test_grounds import across, atlas_of


def faults_of_rows(plan, ground, p, q, told):
    """What of the words on ways and crossed pieces does not hold."""
    number, ways, crossed, heights = told
    if [len(ways), len(crossed)] != [number + 1, number]:
        return ["counts"]
    faults = []
    if not ways[0] or not ways[-1] or ways[0][0] != p or ways[-1][-1] != q:
        return ["ends"]
    for row in ways:
        faults.extend(faults_between(plan, ground, row[0], row[-1], ("way", row)))
    ends = [piece[:2] for piece in plan[1]]
    for one, other, piece in zip(ways, ways[1:], crossed):
        if piece not in ends:
            faults.append(("no piece", piece))
        met = [(side, z) for side in ends for z in shared_by(one[-1], other[0], side[0], side[1])]
        if len(met) != 1 or met[0][0] != piece or met[0][1] in piece:
            faults.append(("met", met, piece))
    return faults


def faults_of_heights(atlas, p, q, told):
    number, ways, crossed, heights = told
    faults = []
    if sorted(heights) != atlas.numbers():
        return ["faces"]
    if heights[atlas.place_at(p)[1]] != 0 or heights[atlas.place_at(q)[1]] != number:
        faults.append("heights of the ends")
    for n in atlas.numbers():
        for u, v, other, passes in atlas.sides_at(n):
            if abs(heights[n] - heights[other]) > 1:
                faults.append(("apart", n, other))
    return faults


class Case(unittest.TestCase):
    def told(self, atlas, p, q):
        plan = atlas.plan()
        told = fewest(atlas, p, q)
        self.assertIsInstance(told, tuple)
        self.assertEqual([thing.__class__ for thing in told], [int, list, list, dict])
        self.assertEqual(faults_of_rows(plan, Ground(plan[1]), p, q, told), [])
        self.assertEqual(faults_of_heights(atlas, p, q, told), [])
        return told

    def both(self, atlas, number, points):
        p, q = dots(points)
        for one, other in ((p, q), (q, p)):
            self.assertEqual(self.told(atlas, one, other)[0], number, points)


class Fewest(Case):
    def test_of_a_new_atlas(self):
        atlas = Atlas()
        p, q = dots("0,0 1,5")
        self.assertEqual(self.told(atlas, p, q), (0, [[p, q]], [], {0: 0}))
        self.assertEqual(self.told(atlas, p, p), (0, [[p]], [], {0: 0}))

    def test_in_one_face(self):
        atlas = atlas_of(a=FORMS["hole"])
        self.both(atlas, 0, "1/2,1/2 7/2,7/2")
        self.both(atlas, 0, "1/2,2 7/2,2")
        self.both(atlas, 0, "2,2 5/2,5/2")
        self.both(atlas, 0, "-1,2 5,2")
        self.assertEqual(fewest(atlas, at(2, 2), at(2, 2)), (0, [[at(2, 2)]], [], {2: 0, 1: 1, 0: 2}))

    def test_neighbouring_faces(self):
        self.both(atlas_of(a=[SQUARE]), 1, "2,2 5,2")
        self.both(atlas_of(a=[SQUARE], b=[box(4, 0, 8, 4)]), 1, "1,1 7,3")
        self.both(across(), 1, "1,1 3,3")
        self.both(across(), 2, "1,1 5,5")
        atlas = atlas_of(a=[SQUARE])
        told = self.told(atlas, at(2, 2), at(9, 2))
        self.assertEqual([told[0], told[3]], [1, {1: 0, 0: 1}])

    def test_within_one_another(self):
        atlas = atlas_of(a=[SQUARE], b=[box(1, 1, 3, 3)], c=[box("3/2", "3/2", "5/2", "5/2")])
        for text, number in (("2,2 5,5", 3), ("2,2 1/2,1/2", 2), ("2,2 5/4,5/4", 1), ("5/4,2 5,5", 2),
                             ("5/4,5/4 11/4,11/4", 0), ("1/2,1 -3,1", 1)):
            self.both(atlas, number, text)

    def test_far_apart(self):
        atlas = atlas_of(a=[box(0, 0, 2, 2), box(1, 1, 3, 3), box(100, 0, 101, 1)], b=[box(90, -9, 110, 9)])
        self.both(atlas, 4, "3/2,3/2 201/2,1/2")
        self.both(atlas, 2, "-1000000,0 201/2,1/2")
        self.both(atlas, 0, "-1000000,0 1000000,0")

    def test_a_detour_is_shorter_than_the_straight_line(self):
        atlas = Atlas()
        atlas.put("a", PARTS["comb"])
        self.both(atlas, 0, "1/2,5 8,5")
        self.both(atlas, 0, "2,5 6,5")
        self.both(atlas, 1, "1/2,5 6,5")

    def test_corners_are_not_crossed(self):
        atlas = atlas_of(a=[dots("0,0 2,0 2,2 0,2"), dots("2,2 4,2 4,4 2,4")])
        self.both(atlas, 2, "1,1 3,3")
        atlas = atlas_of(a=FORMS["bow"])
        self.both(atlas, 2, "1/4,1 7/4,1")

    def test_a_piece_passed_several_times_is_one(self):
        atlas = atlas_of(a=[SQUARE * 3], b=[SQUARE])
        self.both(atlas, 1, "2,2 9,9")

    def test_slivers_and_bounds(self):
        atlas = atlas_of(a=PARTS["sliver"])
        self.both(atlas, 1, "1000,5/4 0,5")
        atlas = atlas_of(a=FORMS["bounds"])
        own = [atlas.paper(n)[0] for n in atlas.numbers()]
        for p in own:
            for q in own:
                self.told(atlas, p, q)

    def test_stars(self):
        atlas = atlas_of(a=[star((0, 0), 1, 1, 5)], b=[star((1, 0), 1, 2, 5)])
        self.told(atlas, at("1/100", "1/90"), at(50, 50))
        self.told(atlas, at("1/9", "1/7"), at(0, 20))
        self.told(atlas, at(20, 0), at(-20, "1/3"))

    def test_all_pairs_of_own_points(self):
        chance = chance_of(331)
        for rings in [FORMS["hole"], FORMS["bow"], PARTS["two within"], PARTS["a chain of corners"], PARTS["uprights"],
                      [grid_ring(chance, 6, 5), grid_ring(chance, 4, 5)]]:
            atlas = atlas_of(b=rings)
            own = [atlas.paper(n)[0] for n in atlas.numbers()]
            told = {}
            for k, p in enumerate(own):
                for h, q in enumerate(own):
                    told[(k, h)] = self.told(atlas, p, q)[0]
            for k, h in told:
                self.assertEqual(told[(k, h)], told[(h, k)])
                self.assertEqual(told[(k, h)] == 0, k == h)

    def test_by_chance(self):
        chance = chance_of(332)
        counts = {}
        for number in range(8):
            atlas = atlas_of(a=[grid_ring(chance, 6, 6)], c=[grid_ring(chance, 6, 6)], b=[grid_ring(chance, 5, 4)])
            atlas.out("c")
            atlas.put("d", [grid_ring(chance, 6, 6)])
            ground = Ground(atlas.plan()[1])
            points = [p for p in points_about(chance, atlas.plan(), 12) if ground.is_ground(p)]
            for p, q in zip(points, chance.sample(points, len(points))):
                told = self.told(atlas, p, q)
                counts[told[0]] = counts.get(told[0], 0) + 1
        self.assertGreater(len(counts), 3)


class Refused(Case):
    def test_no_ground(self):
        atlas = across()
        good = at(1, 1)
        for text in ("0,0", "2,2", "4,2", "1,0", "2,5", "3,4", "6,6"):
            p = dots(text)[0]
            self.assertEqual(refusal(fewest, atlas, p, good), ("NoGround", p))
            self.assertEqual(refusal(fewest, atlas, good, p), ("NoGround", p))
            with self.assertRaises(NoGround) as caught:
                fewest(atlas, p, good)
            self.assertIs(caught.exception.point, p)

    def test_the_first_is_looked_at_first(self):
        p, q = dots("0,0 4,1")
        self.assertEqual(refusal(fewest, across(), p, q), ("NoGround", p))
        self.assertEqual(refusal(fewest, across(), q, p), ("NoGround", q))
        self.assertEqual(refusal(fewest, across(), q, q), ("NoGround", q))

    def test_nothing_is_changed(self):
        atlas = across()
        ahead = all_told(atlas)
        p, q = dots("1,1 5,5")
        told = fewest(atlas, p, q)
        told[1][0].clear()
        told[1].clear()
        told[2].clear()
        told[3].clear()
        refusal(fewest, atlas, at(0, 0), p)
        self.assertEqual(all_told(atlas), ahead)
        self.assertEqual(fewest(atlas, p, q), fewest(across(), p, q))

    def test_behind_a_deed(self):
        atlas = across()
        p, q = dots("1,1 5,5")
        self.assertEqual(self.told(atlas, p, q)[0], 2)
        atlas.out("b")
        self.assertEqual(self.told(atlas, p, q)[0], 1)
        atlas.put("b", [box(0, 0, 9, 9), box("1/2", "1/2", 8, 8)])
        self.assertEqual(self.told(atlas, p, at(10, 10))[0], 2)
