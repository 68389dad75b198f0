"""What a deed does to faces and their numbers, and that the row of deeds leaves no trace but in the numbers."""

import unittest

from plymap.atlas import Atlas
from plymap.errors import PlyError
from plymap.faces import Faces
from plymap.grounds import faces_in, ground_of
from plymap.net import Net
from plymap.own import own_point, rounds_of
from plymap.plans import laid_over, plan_of
from plymap.rings import row_of
from tests.helper import (FORMS, PARTS, SQUARE, Ground, all_told, at, box, chance_of, dots, faces_told, grid_ring,
                          is_on, place, refusal, ring_sides, rounds_by_rule, shared_by, some_wish, star, winding)


def plan_at_once(plans):
    """The plan of layers that are told by plans of one layer, by their names."""
    plan = (0, [])
    for name in sorted(plans):
        plan = laid_over(plan, plans[name])
    return plan


def faces_at_once(plans):
    """From the rows of each face, in the row of faces, to its own point, rounds by names and area."""
    names = sorted(plans)
    faces = Faces(Net(plan_at_once(plans)))
    found = {}
    for f in range(faces.many()):
        rows = tuple([tuple(row_of(faces.net(), ring)) for ring in faces.rings_at(f)])
        rounds = {name: number for name, number in zip(names, rounds_of(faces, f)) if number != 0}
        found[rows] = ((own_point(faces, f), rounds), faces.area_at(f) if f > 0 else None)
    return found


class Watched:
    """An atlas and, beside it, what the words on deeds ask of it: every deed is checked."""

    def __init__(self, test):
        self.test = test
        self.atlas = Atlas()
        self.plans = {}
        self.numbers = {(): 0}
        self.papers = {(): {}}
        self.last = 0

    def put(self, name, rings):
        return self.check(self.atlas.put(name, rings), dict(self.plans, **{name: plan_of([rings])}))

    def lay(self, name, plan):
        return self.check(self.atlas.lay(name, plan), dict(self.plans, **{name: plan}))

    def swap(self, name, rings):
        return self.check(self.atlas.swap(name, rings), dict(self.plans, **{name: plan_of([rings])}))

    def out(self, name):
        plans = dict(self.plans)
        plans.pop(name)
        return self.check(self.atlas.out(name), plans)

    def check(self, told, plans):
        faces = faces_at_once(plans)
        numbers, last = {}, self.last
        for rows in faces:
            if not numbers:
                numbers[rows] = 0
            elif rows in self.numbers and self.numbers[rows] > 0:
                numbers[rows] = self.numbers[rows]
            else:
                last += 1
                numbers[rows] = last
        gone = sorted(set(self.numbers.values()) - set(numbers.values()))
        come = sorted(set(numbers.values()) - set(self.numbers.values()))
        marked = sorted([n for rows, n in numbers.items()
                         if n > 0 and n not in come and faces[rows][0][1] != self.papers[rows]])
        self.test.assertEqual(told, (gone, come, marked))
        self.plans, self.numbers, self.last = plans, numbers, last
        self.papers = {rows: paper[1] for rows, (paper, area) in faces.items()}
        self.check_told(faces)
        return told

    def check_told(self, faces):
        self.test.assertEqual(self.atlas.names(), sorted(self.plans))
        self.test.assertEqual(self.atlas.numbers(), sorted(self.numbers.values()))
        self.test.assertEqual(self.atlas.plan(), plan_at_once(self.plans))
        self.test.assertEqual(faces_told(self.atlas), faces)
        for rows, number in self.numbers.items():
            self.test.assertEqual(self.atlas.rows_at(number), [list(row) for row in rows])


class Numbers(unittest.TestCase):
    def test_beside(self):
        atlas = Watched(self)
        self.assertEqual(atlas.put("a", [box(0, 0, 1, 1)]), ([], [1], []))
        self.assertEqual(atlas.put("b", [box(2, 0, 3, 1)]), ([], [2], []))
        self.assertEqual(atlas.put("c", [box(-2, 0, -1, 1)]), ([], [3], []))
        self.assertEqual(atlas.out("a"), ([1], [], []))
        self.assertEqual(atlas.swap("b", [box(4, 0, 5, 1)]), ([2], [4], []))
        self.assertEqual(atlas.out("c"), ([3], [], []))
        self.assertEqual(atlas.put("a", [box(0, 0, 1, 1)]), ([], [5], []))

    def test_beside_with_a_side_in_common(self):
        atlas = Watched(self)
        atlas.put("a", [box(0, 0, 1, 1)])
        self.assertEqual(atlas.put("b", [box(1, 0, 2, 1)]), ([], [2], []))
        self.assertEqual(atlas.put("c", [box(2, "1/2", 3, "3/2")]), ([2], [3, 4], []))
        self.assertEqual(atlas.out("b"), ([3, 4], [5], []))

    def test_within(self):
        atlas = Watched(self)
        self.assertEqual(atlas.put("a", [SQUARE]), ([], [1], []))
        self.assertEqual(atlas.put("b", [box(1, 1, 3, 3)]), ([1], [2, 3], []))
        self.assertEqual(atlas.put("c", [box(-1, -1, 5, 5)]), ([], [4], [2, 3]))
        self.assertEqual(atlas.out("b"), ([2, 3], [5], []))
        self.assertEqual(atlas.out("c"), ([4], [], [5]))
        self.assertEqual(atlas.swap("a", [SQUARE, SQUARE]), ([], [], [5]))
        self.assertEqual(atlas.swap("a", [box(1, 1, 2, 2)]), ([5], [6], []))

    def test_across(self):
        atlas = Watched(self)
        atlas.put("a", [SQUARE])
        self.assertEqual(atlas.put("b", [box(2, 2, 6, 6)]), ([1], [2, 3, 4], []))
        self.assertEqual(atlas.put("c", [box(9, 9, 10, 10)]), ([], [5], []))
        self.assertEqual(atlas.out("a"), ([2, 3, 4], [6], []))
        self.assertEqual(atlas.swap("b", [SQUARE]), ([6], [7], []))
        self.assertEqual(atlas.swap("c", [box(2, 2, 6, 6)]), ([5, 7], [8, 9, 10], []))

    def test_alike(self):
        atlas = Watched(self)
        atlas.put("b", [SQUARE])
        self.assertEqual(atlas.put("a", [SQUARE]), ([], [], [1]))
        self.assertEqual(atlas.put("c", [SQUARE[::-1]]), ([], [], [1]))
        self.assertEqual(atlas.swap("c", [SQUARE[2:] + SQUARE[:2]]), ([], [], [1]))
        self.assertEqual(atlas.swap("c", [SQUARE]), ([], [], []))
        self.assertEqual(atlas.out("b"), ([], [], [1]))
        self.assertEqual(atlas.out("c"), ([], [], [1]))
        self.assertEqual(atlas.out("a"), ([1], [], []))

    def test_of_nothing(self):
        atlas = Watched(self)
        atlas.put("a", [SQUARE])
        self.assertEqual(atlas.put("b", FORMS["there and back"]), ([], [], []))
        self.assertEqual(atlas.lay("c", (1, [])), ([], [], []))
        self.assertEqual(atlas.out("b"), ([], [], []))
        self.assertEqual(atlas.swap("c", FORMS["there and back"]), ([], [], []))
        self.assertEqual(atlas.swap("a", FORMS["there and back"]), ([1], [], []))

    def test_laid(self):
        atlas = Watched(self)
        self.assertEqual(atlas.lay("a", plan_of([FORMS["hole"]])), ([], [1, 2], []))
        self.assertEqual(atlas.lay("b", plan_of([[box(1, 1, 3, 3)]])), ([], [], [2]))
        self.assertEqual(atlas.lay("c", plan_of([[SQUARE]])), ([], [], [1, 2]))
        self.assertEqual(atlas.lay("d", plan_of([[box(3, 1, 5, 3)]])), ([1], [3, 4, 5], []))
        self.assertEqual(atlas.out("d"), ([3, 4, 5], [6], []))

    def test_a_corner_on_a_straight_side_comes_and_goes(self):
        atlas = Watched(self)
        atlas.put("a", [SQUARE])
        self.assertEqual(atlas.put("b", [dots("4,2 6,1 6,3")]), ([1], [2, 3], []))
        self.assertEqual(atlas.atlas.rows_at(2), [dots("0,0 4,0 4,2 4,4 0,4")])
        self.assertEqual(atlas.out("b"), ([2, 3], [4], []))

    def test_touching_at_a_corner(self):
        atlas = Watched(self)
        atlas.put("a", [SQUARE])
        self.assertEqual(atlas.put("b", [box(4, 4, 6, 6)]), ([], [2], []))
        self.assertEqual(atlas.put("c", [dots("0,0 -1,-2 -2,-1")]), ([], [3], []))
        self.assertEqual(atlas.put("d", [dots("0,0 2,1 1,2")]), ([1], [4, 5], []))

    def test_numbers_of_those_that_come_stand_in_the_row_of_faces(self):
        atlas = Watched(self)
        atlas.put("b", [box(5, 5, 6, 6)])
        self.assertEqual(atlas.put("a", [box(9, 0, 10, 1), box(7, 0, 8, 1), box(0, 0, 1, 1)]), ([], [2, 3, 4], []))
        self.assertEqual([atlas.atlas.place_at(p)[1] for p in dots("1/2,1/2 15/2,1/2 19/2,1/2")], [2, 3, 4])

    def test_never_used_twice(self):
        atlas = Atlas()
        seen = [0]
        for number in range(30):
            told = atlas.put("a", [SQUARE]) if number % 2 == 0 else atlas.swap("a", FORMS["bow"])
            self.assertEqual([n for n in told[1] if n <= max(seen)], [])
            seen.extend(told[1])
            if number % 2 == 1:
                atlas.out("a")
                self.assertEqual(atlas.numbers(), [0])
        self.assertEqual(sorted(seen), list(range(46)))

    def test_tuple_of_three_rising_lists(self):
        atlas = Atlas()
        for k, name in enumerate("abcd"):
            told = atlas.put(name, [star((k, k), 1, 1, 5)])
            self.assertIsInstance(told, tuple)
            self.assertEqual([isinstance(numbers, list) for numbers in told], [True] * 3)
            for numbers in told:
                self.assertEqual(numbers, sorted(set(numbers) - {0}))

    def test_kept_faces_keep_point_and_area(self):
        chance = chance_of(161)
        for number in range(20):
            atlas = Atlas()
            for name in "abc":
                atlas.put(name, [grid_ring(chance, 5, 6)])
            ahead = {n: (atlas.rows_at(n), atlas.paper(n)[0], atlas.area_at(n)) for n in atlas.numbers()[1:]}
            gone, come, marked = atlas.swap("b", [grid_ring(chance, 4, 4)])
            behind = {n: (atlas.rows_at(n), atlas.paper(n)[0], atlas.area_at(n)) for n in atlas.numbers()[1:]}
            self.assertEqual(sorted(set(ahead) - set(gone)), sorted(set(behind) - set(come)))
            for n in set(ahead) & set(behind):
                self.assertEqual(ahead[n], behind[n])


def some_plan(chance):
    """A plan of one layer with few pieces."""
    a, b = [grid_ring(chance, 3, 6)], [grid_ring(chance, 3, 6)]
    return chance.choice([plan_of([a]), plan_of([b + b]), plan_of([a + [dots("9,9 10,9 9,10")]]), (1, [])])


def drawn_deed(chance, atlas, names="abcdefghi"):
    """A deed by chance, as a tuple of its word and what is handed in."""
    name = chance.choice(names)
    rings = [grid_ring(chance, 5, 6) for ring in range(chance.choice([1, 1, 2]))]
    if name not in atlas.names():
        return ("put", name, rings) if chance.random() < 0.6 else ("lay", name, some_plan(chance))
    return ("swap", name, rings) if chance.random() < 0.5 else ("out", name)


def is_touched(ground_rows, number, sides):
    """Whether one of the sides has a point in a face's ground or on a piece of its rings."""
    for u, v in sides:
        if any([shared_by(u, v, a, b) for a, b in ring_sides(ground_rows)]):
            return True
        about = rounds_by_rule(ground_rows, u)
        if about == (1 if number > 0 else 0):
            return True
    return False


def goes_through(rows, a, b):
    """Whether the side from a to b has a point in the ground of the face, not the outermost, with these rows."""
    sides = ring_sides(rows)
    cuts = sorted([place(a), place(b)] + [place(z) for u, v in sides for z in shared_by(a, b, u, v)])
    for one, other in zip(cuts, cuts[1:]):
        z = at((one[0] + other[0]) / 2, (one[1] + other[1]) / 2)
        if rounds_by_rule(rows, z) == 1 and not any([is_on(z, u, v) for u, v in sides]):
            return True
    return False


class Drawn(unittest.TestCase):
    def test_many_deeds_against_a_plan_made_at_once(self):
        for seed in range(12):
            chance = chance_of(170 + seed)
            atlas = Watched(self)
            refused = 0
            for number in range(14):
                deed = drawn_deed(chance, atlas.atlas)
                ahead = all_told(atlas.atlas)
                try:
                    getattr(atlas, deed[0])(*deed[1:])
                except PlyError:
                    refused += 1
                    self.assertEqual(all_told(atlas.atlas), ahead)
            self.assertLess(refused, 6)

    def test_the_row_of_deeds_leaves_no_trace(self):
        for seed in range(8):
            chance = chance_of(190 + seed)
            layers = {name: [grid_ring(chance, 5, 6)] for name in "abcdef"}
            one = Atlas()
            for name in chance.sample("abcdef", 6):
                one.put(name, chance.choice([layers[name], [grid_ring(chance, 4, 6)]]))
            for name in chance.sample("abcdef", 4):
                one.out(name)
                one.put(name, [grid_ring(chance, 3, 6)])
            for name in chance.sample("abcdef", 6):
                one.swap(name, layers[name])
            other = Atlas()
            for name in "fedcba":
                other.lay(name, plan_of([layers[name]])) if name in "ce" else other.put(name, layers[name])
            self.assertEqual(faces_told(one), faces_told(other))
            self.assertEqual(one.plan(), other.plan())
            for p in [(x, y, 3) for x in range(-1, 20, 5) for y in range(-1, 20, 7)]:
                place = one.place_at(p)
                self.assertEqual(place[0], other.place_at(p)[0])
                if place[0] == "face":
                    self.assertEqual(one.paper(place[1]), other.paper(other.place_at(p)[1]))
                    rounds = {name: winding(layers[name], p) for name in layers}
                    self.assertEqual(one.paper(place[1])[1], {name: n for name, n in rounds.items() if n != 0})


class Touched(unittest.TestCase):
    def watch(self, atlas, sides, call, *things):
        """A deed of a layer with these sides: what none of them touches neither goes nor comes."""
        rows = {n: atlas.rows_at(n) for n in atlas.numbers()}
        told = call(*things)
        gone, come, marked = told
        rows.update({n: atlas.rows_at(n) for n in atlas.numbers()[1:]})
        for n in gone + come:
            self.assertTrue(is_touched(rows[n], n, sides), (n, told))
        self.untouched += len([n for n in rows if n > 0 and not is_touched(rows[n], n, sides)])
        return told

    def test_untouched_faces_neither_go_nor_come(self):
        self.untouched = 0
        for seed in range(10):
            chance = chance_of(210 + seed)
            atlas = Atlas()
            sides = {}
            for number in range(10):
                deed = drawn_deed(chance, atlas, "abcdef")
                here = sides.get(deed[1], [])
                if deed[0] in ("put", "swap"):
                    here = here + ring_sides(deed[2])
                elif deed[0] == "lay":
                    here = here + [piece[:2] for piece in deed[2][1]]
                try:
                    self.watch(atlas, here, getattr(atlas, deed[0]), *deed[1:])
                except PlyError:
                    continue
                sides[deed[1]] = here[len(sides.get(deed[1], [])):]
        self.assertGreater(self.untouched, 200)

    def test_far_away(self):
        self.untouched = 0
        atlas = Atlas()
        for name, rings in (("a", FORMS["hole"]), ("b", FORMS["bow"]), ("c", [box(1, 1, 2, 9)])):
            atlas.put(name, rings)
        ahead = faces_told(atlas)
        self.assertEqual(atlas.put("far", [box(100, 0, 101, 1)])[0::2], ([], []))
        self.assertEqual(atlas.swap("far", [box(200, 0, 201, 1)])[2], [])
        atlas.out("far")
        self.assertEqual(faces_told(atlas), ahead)

    def test_faces_that_come_lie_within_one_ahead(self):
        for seed in range(8):
            chance = chance_of(230 + seed)
            atlas = Atlas()
            for name in "abcde":
                pieces, ground = atlas.plan()[1], Ground(atlas.plan()[1])
                if chance.random() < 0.6:
                    come = atlas.put(name, [grid_ring(chance, 5, 6)])[1]
                else:
                    come = atlas.lay(name, some_plan(chance))[1]
                for n in come:
                    self.assertEqual([1 for a, b, passes in pieces if goes_through(atlas.rows_at(n), a, b)], [])
                    self.assertTrue(ground.is_ground(atlas.paper(n)[0]))

    def test_faces_that_go_lie_within_one_behind(self):
        for seed in range(8):
            chance = chance_of(250 + seed)
            atlas = Atlas()
            for name in "abcde":
                atlas.put(name, [grid_ring(chance, 5, 6)])
            for name in chance.sample("abcde", 5):
                ahead = {n: (atlas.rows_at(n), atlas.paper(n)[0]) for n in atlas.numbers()}
                gone = atlas.out(name)[0]
                pieces, ground = atlas.plan()[1], Ground(atlas.plan()[1])
                for n in gone:
                    self.assertEqual([1 for a, b, passes in pieces if goes_through(ahead[n][0], a, b)], [])
                    self.assertTrue(ground.is_ground(ahead[n][1]))

    def test_a_piece_through_a_face_is_seen(self):
        for text, through in (("0,0 4,4", True), ("1,1 2,3", True), ("0,0 0,4", False), ("-1,1 0,3", False),
                              ("-1,1 1,3", True), ("4,1 4,9", False)):
            self.assertEqual(goes_through([SQUARE], *dots(text)), through, text)

    def test_the_ground_of_a_wish_laid_in(self):
        laid = 0
        for seed in range(40):
            chance = chance_of(270 + seed)
            atlas = Atlas()
            for name in "abc":
                atlas.put(name, [grid_ring(chance, 4, 6)])
            for number in range(4):
                wish = some_wish(chance, ["a", "b", "c", "g", "x"], 4)
                numbers = faces_in(atlas, wish)
                if 0 in numbers:
                    continue
                ground = ground_of(atlas, wish)
                if refusal(Atlas().lay, "g", ground) is None and len(ground[1]) <= 34:
                    self.assertEqual(atlas.lay("g", ground), ([], [], numbers))
                    self.assertEqual([n for n in atlas.numbers() if "g" in atlas.paper(n)[1]], numbers)
                    self.assertEqual(atlas.out("g"), ([], [], numbers))
                    laid += 1
        self.assertGreater(laid, 60)

    def test_the_ground_of_forms_laid_in(self):
        for rings in list(FORMS.values()) + list(PARTS.values()):
            atlas = Atlas()
            if refusal(atlas.put, "a", rings) is not None:
                continue
            for wish in (("in", "a"), ("round", "a", 1), ("round", "a", -1), ("round", "a", 2), ("least", 2)):
                ground = ground_of(atlas, wish)
                if len(ground[1]) + sum([len(ring) for ring in rings]) <= 48:
                    numbers = faces_in(atlas, wish)
                    self.assertEqual(atlas.lay("b", ground), ([], [], numbers))
                    atlas.out("b")
