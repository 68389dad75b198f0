"""What an atlas takes in, what it refuses, and what it tells when it is asked."""

import unittest

from plymap.atlas import Atlas
from plymap.errors import NoFace, NoLayer, PlyError, Taken
from plymap.plans import chosen_of, is_plan, laid_over, plan_of
from tests.helper import (FORMS, PARTS, SQUARE, Ground, Sore, all_told, as_fraction, at, box, chance_of, dots,
                          grid_ring, half_sum, odd_things, place, refusal, star, winding)
from tests.test_names import NAMES, NO_NAMES

NONE = ("NoName",)
BAD_PLANS = [(0, []), (2, []), plan_of([[SQUARE], [SQUARE]]), plan_of([]), (1, ()), [1, []], (1, [], 0), (True, []),
             (1.0, []), (-1, []), (10 ** 300, []), (1, plan_of([[SQUARE]])[1][1:]), (1, plan_of([[SQUARE]])[1][::-1]),
             (1, [list(piece) for piece in plan_of([[SQUARE]])[1]]), (1, plan_of([[], [SQUARE]])[1]),
             plan_of([[SQUARE]])[1], (1, [(at(0, 0), at(1, 0), (1,))]), ("1", []), (1, [Sore()]), (1, Sore())]
BAD_RINGS = [([], (0, 0)), ([SQUARE] * 5, (0, 0)), ((SQUARE,), (0, 0)), ([[]], (0, 0)),
             ([SQUARE, dots("0,0 1,1")], (1, 0)), ([SQUARE, SQUARE[:2] + SQUARE[1:]], (1, 2)),
             ([SQUARE + SQUARE[:1]], (0, 4)), ([SQUARE * 4], (0, 0)),
             ([SQUARE[:3] + [(2, 2, 2)]], (0, 3)), ([[(10 ** 12 + 1, 0, 1)] + SQUARE], (0, 0)), ([Sore()], (0, 0))]


def strip(many, low=0):
    """A ring of so many points, at most 12."""
    return [at(k, low) for k in range(many - 1)] + [at(0, low + 1)]


def layer_with(sides):
    """A layer with so many sides, from 3 to 48."""
    rings = []
    while sides > 0:
        many = min(12, sides) if sides - min(12, sides) not in (1, 2) else sides - 3
        rings.append(strip(many, 2 * len(rings)))
        sides -= many
    return rings


def plan_with(pieces):
    """A plan of one layer with so many pieces, a ring that bulges outwards."""
    points = [(k, k * k) for k in range(pieces)]
    return plan_of([[[at(x, y) for x, y in points]]])


def stocked():
    atlas = Atlas()
    atlas.put("bow", FORMS["bow"])
    atlas.lay("hole", plan_of([FORMS["hole"]]))
    atlas.put("a", [box(1, 1, 5, 3)])
    return atlas


class Case(unittest.TestCase):
    def refused(self, atlas, call, things, expected):
        ahead = all_told(atlas)
        self.assertEqual(refusal(call, *things), expected, things[:1])
        self.assertEqual(all_told(atlas), ahead)


class Names(Case):
    def test_new(self):
        atlas = Atlas()
        self.assertEqual(atlas.names(), [])
        self.assertEqual(atlas.numbers(), [0])
        self.assertEqual(atlas.plan(), (0, []))
        self.assertEqual(atlas.rows_at(0), [])
        self.assertEqual(atlas.sides_at(0), [])
        self.assertEqual(atlas.paper(0), ((0, 0, 1), {}))
        self.assertEqual(refusal(atlas.area_at, 0), ("Endless",))
        self.assertEqual(atlas.place_at(at(5, "1/2")), ("face", 0))

    def test_names_are_sorted(self):
        atlas = Atlas()
        for k, name in enumerate(["m", "zz", "a", "ab", "abcdefgh", "b"]):
            atlas.put(name, [box(k, 0, k + 1, 1)])
        self.assertEqual(atlas.names(), ["a", "ab", "abcdefgh", "b", "m", "zz"])
        atlas.out("ab")
        self.assertEqual(atlas.names(), ["a", "abcdefgh", "b", "m", "zz"])

    def test_layers_of_the_plan_stand_in_the_row_of_names(self):
        atlas = Atlas()
        layers = {"m": FORMS["bow"], "b": FORMS["square"], "zz": FORMS["hole"], "ba": FORMS["spike"]}
        for name, rings in layers.items():
            atlas.put(name, rings)
            self.assertEqual(atlas.plan(), plan_of([layers[one] for one in atlas.names()]))

    def test_each_name(self):
        for name in NAMES:
            atlas = Atlas()
            self.assertEqual(atlas.put(name, FORMS["square"]), ([], [1], []))
            self.assertEqual(atlas.names(), [name])
            self.assertEqual(atlas.paper(1)[1], {name: 1})

    def test_no_name(self):
        atlas = stocked()
        for thing in NO_NAMES + [thing for thing in odd_things() if thing.__class__ is not str or thing != "a"]:
            self.assertEqual(refusal(atlas.put, thing, FORMS["square"]), NONE)
            self.assertEqual(refusal(atlas.lay, thing, plan_of([FORMS["square"]])), NONE)
        self.assertEqual(all_told(atlas), all_told(stocked()))

    def test_no_layer_of_whatever_is_handed_in(self):
        atlas = stocked()
        for thing in NO_NAMES + odd_things() + ["b", "holes", "abcdefgh"]:
            if thing.__class__ is str and thing == "a":
                continue
            for call, things in ((atlas.swap, (thing, FORMS["square"])), (atlas.out, (thing,))):
                with self.assertRaises(NoLayer) as caught:
                    call(*things)
                self.assertIs(caught.exception.name, thing)
        self.assertEqual(all_told(atlas), all_told(stocked()))

    def test_taken(self):
        atlas = stocked()
        for name in atlas.names():
            for call, thing in ((atlas.put, FORMS["square"]), (atlas.lay, plan_of([FORMS["square"]]))):
                self.refused(atlas, call, (name, thing), ("Taken", name))
        with self.assertRaises(Taken) as caught:
            atlas.put("bow", FORMS["bow"])
        self.assertEqual(caught.exception.name, "bow")

    def test_a_name_is_free_again(self):
        atlas = stocked()
        atlas.out("bow")
        self.assertEqual(refusal(atlas.out, "bow"), ("NoLayer", "bow"))
        self.assertEqual(refusal(atlas.swap, "bow", FORMS["bow"]), ("NoLayer", "bow"))
        atlas.lay("bow", plan_of([FORMS["spike"]]))
        self.assertEqual(atlas.names(), ["a", "bow", "hole"])


class Room(Case):
    def test_eight_layers(self):
        atlas = Atlas()
        for k, name in enumerate("abcdefgh"):
            atlas.put(name, [strip(3, k)])
        self.refused(atlas, atlas.put, ("i", [strip(3)]), ("TooMany", 8))
        self.refused(atlas, atlas.lay, ("i", plan_with(3)), ("TooMany", 8))
        self.refused(atlas, atlas.lay, ("i", (1, [])), ("TooMany", 8))
        atlas.swap("a", [strip(12)])
        atlas.out("h")
        atlas.lay("i", plan_with(3))
        self.assertEqual(atlas.names(), list("abcdefgi"))

    def test_eight_layers_without_sides(self):
        atlas = Atlas()
        for name in "abcdefgh":
            self.assertEqual(atlas.lay(name, (1, [])), ([], [], []))
        self.assertEqual(atlas.plan(), (8, []))
        self.refused(atlas, atlas.lay, ("i", (1, [])), ("TooMany", 8))
        self.refused(atlas, atlas.put, ("i", [strip(3)]), ("TooMany", 8))

    def test_layers_with_sides(self):
        for sides in range(3, 49):
            self.assertEqual(sum([len(ring) for ring in layer_with(sides)]), sides)
            self.assertEqual(len(plan_with(sides)[1]), sides)

    def test_forty_eight_sides_at_once(self):
        atlas = Atlas()
        atlas.put("a", layer_with(48))
        self.refused(atlas, atlas.put, ("b", [strip(3)]), ("TooMany", 48))
        self.refused(atlas, atlas.lay, ("b", plan_with(3)), ("TooMany", 48))
        self.assertEqual(atlas.lay("b", (1, [])), ([], [], []))
        atlas = Atlas()
        atlas.lay("a", plan_with(48))
        self.refused(atlas, atlas.put, ("b", [strip(3)]), ("TooMany", 48))
        atlas = Atlas()
        self.refused(atlas, atlas.lay, ("a", plan_with(49)), ("TooMany", 48))
        self.refused(atlas, atlas.lay, ("a", plan_with(300)), ("TooMany", 48))

    def test_at_the_bound_and_one_beyond_it(self):
        for here in (3, 20, 36, 44):
            for one in (True, False):
                for other in (True, False):
                    atlas = Atlas()
                    if one:
                        atlas.put("a", layer_with(here))
                    else:
                        atlas.lay("a", plan_with(here))
                    call, made = (atlas.put, layer_with) if other else (atlas.lay, plan_with)
                    self.refused(atlas, call, ("b", made(49 - here)), ("TooMany", 48))
                    call("b", made(48 - here))
                    self.assertEqual(atlas.names(), ["a", "b"])

    def test_swap_at_the_bound_and_one_beyond_it(self):
        atlas = Atlas()
        atlas.put("a", layer_with(20))
        atlas.put("b", layer_with(10))
        atlas.lay("c", plan_with(18))
        self.refused(atlas, atlas.swap, ("a", layer_with(21)), ("TooMany", 48))
        self.refused(atlas, atlas.swap, ("c", layer_with(19)), ("TooMany", 48))
        atlas.swap("a", layer_with(20))
        atlas.swap("c", layer_with(18))
        atlas.swap("a", layer_with(19))
        self.refused(atlas, atlas.swap, ("b", layer_with(12)), ("TooMany", 48))
        atlas.swap("b", layer_with(11))
        self.refused(atlas, atlas.put, ("d", [strip(3)]), ("TooMany", 48))

    def test_out_makes_room(self):
        atlas = Atlas()
        atlas.put("a", layer_with(24))
        atlas.put("b", layer_with(24))
        atlas.out("a")
        atlas.lay("c", plan_with(24))
        self.refused(atlas, atlas.lay, ("a", plan_with(3)), ("TooMany", 48))

    def test_sides_are_counted_by_the_rings(self):
        there_and_back = [dots("0,0 1,1 2,2 3,3 4,4 5,5 6,6 5,5 4,4 3,3 2,2 1,1")]
        atlas = Atlas()
        for name in "abcd":
            self.assertEqual(atlas.put(name, there_and_back), ([], [], []))
        self.assertEqual(atlas.plan(), (4, []))
        self.refused(atlas, atlas.put, ("e", [strip(3)]), ("TooMany", 48))
        atlas.swap("a", [SQUARE * 3])
        self.refused(atlas, atlas.put, ("e", [strip(3)]), ("TooMany", 48))

    def test_sides_of_a_laid_one_are_counted_by_its_pieces(self):
        star_plan = plan_of([[star((0, 0), 1, 1, 5)]])
        self.assertGreater(len(star_plan[1]), 48)
        atlas = Atlas()
        self.refused(atlas, atlas.lay, ("a", star_plan), ("TooMany", 48))
        atlas.put("a", [star((0, 0), 1, 1, 5)])
        self.assertEqual(atlas.plan(), star_plan)
        for name in "bcd":
            atlas.put(name, [star((0, 0), 1, 1, 5)])
        atlas = Atlas()
        square = plan_of([[SQUARE * 3]])
        for k in range(8):
            atlas.lay("abcdefgh"[k], square)
        self.assertEqual(atlas.paper(1)[1], {name: 3 for name in "abcdefgh"})


class Refused(Case):
    def test_bad_layers(self):
        atlas = stocked()
        for rings, fields in BAD_RINGS:
            self.refused(atlas, atlas.put, ("b", rings), ("BadLayer",) + fields)
            self.refused(atlas, atlas.swap, ("a", rings), ("BadLayer",) + fields)
            self.refused(atlas, atlas.swap, ("hole", rings), ("BadLayer",) + fields)

    def test_bad_layers_whatever_is_handed_in(self):
        atlas = stocked()
        for thing in odd_things():
            self.assertEqual(refusal(atlas.put, "b", thing)[0], "BadLayer")
            self.assertEqual(refusal(atlas.swap, "a", thing)[0], "BadLayer")
        self.assertEqual(all_told(atlas), all_told(stocked()))

    def test_bad_plans_whatever_is_handed_in(self):
        atlas = stocked()
        for thing in BAD_PLANS + odd_things() + [FORMS["square"], atlas.plan(), atlas]:
            self.assertEqual(refusal(atlas.lay, "b", thing), ("BadPlan",))
        self.assertEqual(all_told(atlas), all_told(stocked()))

    def test_row_of_refusals_of_put(self):
        atlas = Atlas()
        for k, name in enumerate("abcdefgh"):
            atlas.put(name, [strip(6, k)])
        full = layer_with(9)
        self.refused(atlas, atlas.put, ("A", []), NONE)
        self.refused(atlas, atlas.put, (["a"], full), NONE)
        self.refused(atlas, atlas.put, ("a", []), ("Taken", "a"))
        self.refused(atlas, atlas.put, ("a", full), ("Taken", "a"))
        self.refused(atlas, atlas.put, ("i", [SQUARE, []]), ("BadLayer", 1, 0))
        self.refused(atlas, atlas.put, ("i", full), ("TooMany", 8))

    def test_row_of_refusals_of_lay(self):
        atlas = Atlas()
        for k, name in enumerate("abcdefgh"):
            atlas.put(name, [strip(6, k)])
        self.refused(atlas, atlas.lay, ("A", None), NONE)
        self.refused(atlas, atlas.lay, ("", plan_with(9)), NONE)
        self.refused(atlas, atlas.lay, ("h", (2, [])), ("Taken", "h"))
        self.refused(atlas, atlas.lay, ("h", plan_with(9)), ("Taken", "h"))
        self.refused(atlas, atlas.lay, ("i", (2, [])), ("BadPlan",))
        self.refused(atlas, atlas.lay, ("i", plan_with(9)), ("TooMany", 8))

    def test_row_of_refusals_of_swap(self):
        atlas = Atlas()
        atlas.put("a", layer_with(45))
        atlas.put("b", [strip(3)])
        self.refused(atlas, atlas.swap, ("c", []), ("NoLayer", "c"))
        self.refused(atlas, atlas.swap, ("B", layer_with(4)), ("NoLayer", "B"))
        self.refused(atlas, atlas.swap, ("b", layer_with(4) + [[]]), ("BadLayer", 1, 0))
        self.refused(atlas, atlas.swap, ("b", layer_with(4)), ("TooMany", 48))

    def test_numbers_go_on_as_if_nothing_had_been_refused(self):
        atlas = Atlas()
        atlas.put("a", layer_with(44))
        last = max(atlas.numbers())
        for number in range(3):
            refusal(atlas.put, "b", layer_with(5))
            refusal(atlas.lay, "b", plan_with(5))
            refusal(atlas.swap, "a", layer_with(48) + [SQUARE])
        self.assertEqual(atlas.put("b", [box(90, 90, 91, 91)]), ([], [last + 1], []))

    def test_no_face(self):
        atlas = stocked()
        gone = atlas.out("bow")[0]
        self.assertGreater(len(gone), 1)
        beyond = max(atlas.numbers()) + 1
        for number in gone + [-1, -2, -(10 ** 299), beyond, beyond + 7, 10 ** 299]:
            for call in (atlas.rows_at, atlas.sides_at, atlas.paper, atlas.area_at):
                with self.assertRaises(NoFace) as caught:
                    call(number)
                self.assertIs(caught.exception.number, number)
                self.assertIsInstance(caught.exception, PlyError)

    def test_no_face_of_a_new_atlas(self):
        atlas = Atlas()
        for number in (1, -1, 5):
            for call in (atlas.rows_at, atlas.sides_at, atlas.paper, atlas.area_at):
                self.assertEqual(refusal(call, number), ("NoFace", number))

    def test_endless(self):
        for atlas in (Atlas(), stocked()):
            self.assertEqual(refusal(atlas.area_at, 0), ("Endless",))


class Asked(Case):
    def test_a_square(self):
        atlas = Atlas()
        self.assertEqual(atlas.put("a", FORMS["square"]), ([], [1], []))
        self.assertEqual(atlas.numbers(), [0, 1])
        self.assertEqual(atlas.rows_at(0), [dots("0,0 0,4 4,4 4,0")])
        self.assertEqual(atlas.rows_at(1), [SQUARE])
        self.assertEqual(atlas.sides_at(1), [(p, q, 0, {"a": 1}) for p, q in zip(SQUARE, SQUARE[1:] + SQUARE[:1])])
        back = dots("0,0 0,4 4,4 4,0")
        self.assertEqual(atlas.sides_at(0), [(p, q, 1, {"a": -1}) for p, q in zip(back, back[1:] + back[:1])])
        self.assertEqual(atlas.paper(0), (at(-1, 0), {}))
        self.assertEqual(atlas.paper(1), (at(2, 2), {"a": 1}))
        self.assertEqual(atlas.area_at(1), (16, 1))

    def test_a_hole(self):
        atlas = Atlas()
        atlas.put("a", FORMS["hole"])
        atlas.put("b", [box(1, 1, 3, 3), box(1, 1, 3, 3)])
        self.assertEqual(atlas.rows_at(1), [SQUARE, dots("1,1 1,3 3,3 3,1")])
        self.assertEqual(atlas.paper(1), (at("1/2", 2), {"a": 1}))
        self.assertEqual(atlas.paper(2), (at(2, 2), {"b": 2}))
        self.assertEqual([atlas.area_at(1), atlas.area_at(2)], [(12, 1), (4, 1)])
        self.assertEqual(atlas.sides_at(1)[4], (at(1, 1), at(1, 3), 2, {"a": 1, "b": -2}))
        self.assertEqual(atlas.sides_at(2)[0], (at(1, 1), at(3, 1), 1, {"a": -1, "b": 2}))

    def test_a_laid_layer_goes_round_as_its_plan_tells(self):
        atlas = Atlas()
        for k, rings in enumerate([FORMS["bow"], FORMS["twice round"], FORMS["turned about"], PARTS["two beside"]]):
            plan = plan_of([rings])
            atlas.lay("abcd"[k], plan)
            self.assertEqual(atlas.plan(), plan_of([FORMS["bow"], FORMS["twice round"], FORMS["turned about"],
                                                    PARTS["two beside"]][:k + 1]))
            self.assertEqual(chosen_of(atlas.plan(), [k]), plan)

    def test_a_laid_layer_may_go_round_any_times(self):
        atlas = Atlas()
        many = 10 ** 299
        atlas.lay("a", (1, [(a, b, (passes[0] * many,)) for a, b, passes in plan_of([FORMS["square"]])[1]]))
        self.assertEqual(atlas.paper(1)[1], {"a": many})
        self.assertEqual(atlas.put("b", FORMS["square"]), ([], [], [1]))
        self.assertEqual(atlas.sides_at(1)[0][3], {"a": many, "b": 1})

    def test_laid_points_may_be_finer_than_those_of_rings(self):
        atlas = Atlas()
        fine = 10 ** 299
        ring = [(0, 0, 1), (1, 0, fine), (1, 1, fine)]
        self.assertEqual(refusal(atlas.put, "a", [ring]), ("BadLayer", 0, 1))
        self.assertEqual(atlas.lay("a", plan_of([[ring]])), ([], [1], []))
        self.assertEqual(atlas.area_at(1), (1, 2 * fine * fine))

    def test_places(self):
        atlas = Atlas()
        atlas.put("a", FORMS["hole"])
        atlas.out("a")
        atlas.put("b", FORMS["hole"])
        for text, told in (("0,0", ("corner", at(0, 0))), ("3,1", ("corner", at(3, 1))),
                           ("2,0", ("piece", (at(0, 0), at(4, 0)))), ("0,1/3", ("piece", (at(0, 0), at(0, 4)))),
                           ("3,2", ("piece", (at(3, 1), at(3, 3)))), ("1/2,1/2", ("face", 3)), ("2,2", ("face", 4)),
                           ("2,7/2", ("face", 3)), ("-1,0", ("face", 0)), ("5,5", ("face", 0)), ("2,9", ("face", 0))):
            self.assertEqual(atlas.place_at(dots(text)[0]), told)

    def test_numbers_of_faces_at_own_points(self):
        chance = chance_of(151)
        for atlas in some_atlases(chance, 12):
            for number in atlas.numbers():
                self.assertEqual(atlas.place_at(atlas.paper(number)[0]), ("face", number))
            for a, b, passes in atlas.plan()[1]:
                (xa, ya), (xb, yb) = place(a), place(b)
                self.assertEqual(atlas.place_at(a), ("corner", a))
                self.assertEqual(atlas.place_at(at((xa + xb) / 2, (ya + yb) / 2)), ("piece", (a, b)))

    def test_half_sides_and_their_mirrored_ones(self):
        for atlas in some_atlases(chance_of(152), 12):
            names, pieces = atlas.names(), {(a, b): passes for a, b, passes in atlas.plan()[1]}
            sides = {number: atlas.sides_at(number) for number in atlas.numbers()}
            self.assertEqual(sum([len(row) for row in sides.values()]), 2 * len(pieces))
            for number, row in sides.items():
                self.assertEqual([side[0] for side in row], [p for ring in atlas.rows_at(number) for p in ring])
                ends = [q for ring in atlas.rows_at(number) for q in ring[1:] + ring[:1]]
                self.assertEqual([side[1] for side in row], ends)
                for p, q, other, passes in row:
                    mirrored = (q, p, number, {name: -number for name, number in passes.items()})
                    self.assertEqual(sides[other].count(mirrored), 1)
                    along = pieces[(p, q)] if (p, q) in pieces else [-number for number in pieces[(q, p)]]
                    self.assertEqual(passes, {name: along[k] for k, name in enumerate(names) if along[k] != 0})

    def test_papers_and_areas_at_both_sides(self):
        for atlas in some_atlases(chance_of(153), 12):
            papers = {number: atlas.paper(number)[1] for number in atlas.numbers()}
            self.assertEqual(papers[0], {})
            for number in atlas.numbers():
                self.assertNotIn(0, papers[number].values())
                for p, q, other, passes in atlas.sides_at(number):
                    for name in atlas.names():
                        here, there = papers[number].get(name, 0), papers[other].get(name, 0)
                        self.assertEqual(here - there, passes.get(name, 0))
                if number > 0:
                    self.assertEqual(as_fraction(atlas.area_at(number)), half_sum(atlas.rows_at(number)))

    def test_papers_are_the_rounds_of_the_rings(self):
        layers = {"a": FORMS["bow"], "b": FORMS["hole"], "cc": FORMS["own corner again"],
                  "d": [grid_ring(chance_of(1))]}
        atlas = Atlas()
        for name, rings in layers.items():
            atlas.put(name, rings)
        ground = Ground(atlas.plan()[1])
        faces = {}
        for number in atlas.numbers():
            p, rounds = atlas.paper(number)
            told = {name: winding(rings, p) for name, rings in layers.items()}
            self.assertEqual(rounds, {name: number for name, number in told.items() if number != 0})
            faces[ground.face(p)] = number
        self.assertEqual(len(faces), len(atlas.numbers()))

    def test_plan_is_a_plan(self):
        for atlas in some_atlases(chance_of(154), 6):
            self.assertIs(is_plan(atlas.plan()), True)
            self.assertEqual(atlas.plan()[0], len(atlas.names()))


def some_atlases(chance, many):
    """Atlases behind some deeds, with laid and put layers, whose numbers don't begin with 1."""
    found = [stocked()]
    for number in range(many):
        atlas = Atlas()
        for name in ("d", "a", "c", "b"):
            if chance.random() < 0.7:
                atlas.put(name, [grid_ring(chance, 5, 5) for ring in range(chance.randrange(1, 3))])
            else:
                atlas.lay(name, plan_of([[grid_ring(chance, 3, 5)]]))
        atlas.out("a")
        atlas.swap("c", [grid_ring(chance, 6, 5)])
        found.append(atlas)
    return found


class Kept(Case):
    def test_told_things_are_the_askers_own(self):
        atlas = stocked()
        ahead = all_told(atlas)
        for number in atlas.numbers():
            atlas.rows_at(number).append(None)
            atlas.rows_at(number)[0].clear()
            atlas.sides_at(number)[0][3].update({"x": 3})
            atlas.sides_at(number).clear()
            atlas.paper(number)[1].update({"x": 3, "a": 9})
        atlas.names().append("x")
        atlas.numbers().pop()
        atlas.plan()[1].pop()
        self.assertEqual(all_told(atlas), ahead)

    def test_told_deeds_are_the_askers_own(self):
        one, other = Atlas(), Atlas()
        for atlas in (one, other):
            for name, rings in (("a", FORMS["hole"]), ("b", [box(2, 2, 6, 6)]), ("c", FORMS["square"])):
                told = atlas.put(name, rings)
                if atlas == one:
                    for numbers in told:
                        numbers.extend([5, 6, 7])
        self.assertEqual(all_told(one), all_told(other))
        self.assertEqual(one.out("a"), other.out("a"))

    def test_dicts_of_one_answer_are_not_shared(self):
        sides = stocked().sides_at(0)
        sides[0][3]["x"] = 1
        self.assertEqual([side for side in sides if "x" in side[3]], sides[:1])
        rows = stocked().rows_at(0)
        self.assertEqual(len({id(row) for row in rows}), len(rows))
        told = Atlas().lay("a", (1, []))
        told[0].append(1)
        self.assertEqual(told, ([1], [], []))

    def test_what_is_handed_in_may_be_changed_behind_the_call(self):
        atlas = Atlas()
        rings = [list(SQUARE), dots("6,6 8,6 7,9")]
        plan = plan_of([FORMS["bow"]])
        others = [box(1, 1, 2, 2)]
        atlas.put("a", rings)
        atlas.lay("b", plan)
        atlas.put("c", FORMS["hole"])
        atlas.swap("c", others)
        ahead = all_told(atlas)
        rings[0].pop()
        rings[1][0] = at(90, 90)
        rings.pop()
        plan[1].clear()
        others[0].append(at(7, 7))
        self.assertEqual(all_told(atlas), ahead)
        atlas.put("d", [box(20, 20, 21, 21)])
        self.assertEqual(atlas.plan(), plan_of([[SQUARE, dots("6,6 8,6 7,9")], FORMS["bow"], [box(1, 1, 2, 2)],
                                                [box(20, 20, 21, 21)]]))

    def test_nothing_that_is_handed_in_is_changed(self):
        atlas = Atlas()
        rings = [list(ring) for ring in FORMS["hole"]]
        plan = plan_of([FORMS["bow"]])
        atlas.put("a", rings)
        atlas.lay("b", plan)
        atlas.swap("b", rings)
        self.assertEqual(rings, FORMS["hole"])
        self.assertEqual(plan, plan_of([FORMS["bow"]]))

    def test_two_atlases_know_nothing_of_one_another(self):
        one, other = Atlas(), Atlas()
        self.assertEqual(one.put("a", FORMS["square"]), ([], [1], []))
        self.assertEqual(all_told(other), all_told(Atlas()))
        self.assertEqual(other.put("a", FORMS["bow"]), ([], [1, 2], []))
        self.assertEqual(one.put("b", [box(9, 9, 10, 10)]), ([], [2], []))
        self.assertEqual(other.names(), ["a"])
        self.assertEqual(other.out("a"), ([1, 2], [], []))
        self.assertEqual(one.names(), ["a", "b"])
        self.assertEqual(other.put("b", FORMS["square"]), ([], [3], []))
        self.assertEqual(one.plan(), plan_of([FORMS["square"], [box(9, 9, 10, 10)]]))

    def test_like_askings_tell_the_same(self):
        self.assertEqual(all_told(stocked()), all_told(stocked()))
        atlas = stocked()
        self.assertEqual(all_told(atlas), all_told(atlas))

    def test_laid_over_told_plans(self):
        one, other = stocked(), Atlas()
        other.put("x", FORMS["square"])
        self.assertEqual(laid_over(one.plan(), other.plan())[0], 4)
        third = Atlas()
        third.lay("x", other.plan())
        self.assertEqual(third.plan(), other.plan())
