import unittest

from plymap.plans import chosen_of, is_plan, laid_over, plan_of, rounds_under
from tests.helper import (Sore, at, chance_of, dots, faults_of, grid_ring, odd_things, pieces_by, place, plan_by,
                          ring_sides, rounds_by_rule, samples, some_point, star)

SQUARE = dots("0,0 2,0 2,2 0,2")
FRAME = "0,0 0,2 -1; 0,0 2,0 1; 0,2 2,2 -1; 2,0 2,2 1"
STARS = [star((0, 0), 5, 5, 5), star((1, 2), 6, 4, 5), star((-2, 1), 4, 7, 7), star((1, -1), 5, 6, 5)]


def some_layers(chance, many, most=5, size=3):
    return [[grid_ring(chance, most, size) for ring in range(chance.randrange(1, 3))] for layer in range(many)]


def all_sides(layers):
    return [side for rings in layers for side in ring_sides(rings)]


class Drawn(unittest.TestCase):
    def test_of_none(self):
        self.assertEqual(plan_of([]), (0, []))

    def test_of_one_layer(self):
        self.assertEqual(plan_of([[SQUARE]]), (1, pieces_by(FRAME)))
        self.assertEqual(plan_of([[SQUARE + SQUARE]]), (1, pieces_by("0,0 0,2 -2; 0,0 2,0 2; 0,2 2,2 -2; 2,0 2,2 2")))
        self.assertEqual(plan_of([[SQUARE[::-1]]]), (1, pieces_by("0,0 0,2 1; 0,0 2,0 -1; 0,2 2,2 1; 2,0 2,2 -1")))

    def test_of_several_layers(self):
        layers = [[SQUARE], [dots("1,1 3,1 3,3 1,3")], [SQUARE[::-1]]]
        pieces = pieces_by("0,0 0,2 -1 0 1; 0,0 2,0 1 0 -1; 0,2 1,2 -1 0 1; 1,1 1,2 0 -1 0; 1,1 2,1 0 1 0;"
                           "1,2 1,3 0 -1 0; 1,2 2,2 -1 0 1; 1,3 3,3 0 -1 0; 2,0 2,1 1 0 -1; 2,1 2,2 1 0 -1;"
                           "2,1 3,1 0 1 0; 3,1 3,3 0 1 0")
        self.assertEqual(plan_of(layers), (3, pieces))

    def test_there_and_back(self):
        self.assertEqual(plan_of([[dots("0,0 4,1")]]), (1, []))
        self.assertEqual(plan_of([[dots("0,0 4,1 8,2")]]), (1, []))
        self.assertEqual(plan_of([[dots("0,0 1,1 0,0 1,1")]]), (1, []))

    def test_with_its_like_turned_about(self):
        self.assertEqual(plan_of([[SQUARE, SQUARE[::-1]]]), (1, []))
        self.assertEqual(plan_of([[STARS[0], STARS[1], STARS[0][::-1]]]), plan_of([[STARS[1]]]))

    def test_layers_that_leave_nothing_still_count(self):
        self.assertEqual(plan_of([[dots("0,0 4,1")], [SQUARE], []])[0], 3)
        self.assertEqual(plan_of([[], []]), (2, []))
        self.assertEqual(plan_of([[dots("0,0 4,1")], [SQUARE]])[1][0], (at(0, 0), at(0, 2), (0, -1)))

    def test_of_all_forms(self):
        chance = chance_of(41)
        for number in range(50):
            layers = some_layers(chance, number % 4 + 1)
            strokes = []
            for k, rings in enumerate(layers):
                passes = tuple([int(place == k) for place in range(len(layers))])
                strokes.extend([(p, q, passes) for p, q in ring_sides(rings)])
            self.assertEqual(plan_of(layers), plan_by(len(layers), strokes))

    def test_four_rings_of_twelve_points_that_all_cross(self):
        plan = plan_of([STARS])
        self.assertGreater(len(plan[1]), 700)
        self.assertEqual(faults_of(plan), [])
        self.assertIs(is_plan(plan), True)
        for p in samples(ring_sides(STARS), 40)[::9]:
            self.assertEqual(rounds_under(plan, p), (rounds_by_rule(STARS, p),))

    def test_what_is_handed_in_stays(self):
        layers = [[list(SQUARE)], [dots("1,1 3,1 3,3")]]
        plan = plan_of(layers)
        plan[1].clear()
        self.assertEqual(layers, [[SQUARE], [dots("1,1 3,1 3,3")]])
        again = plan_of(layers)
        layers[0][0].clear()
        self.assertEqual(len(again[1]), 10)


class Under(unittest.TestCase):
    def test_of_a_square(self):
        plan = plan_of([[SQUARE], [SQUARE[::-1], SQUARE[::-1]]])
        self.assertEqual(rounds_under(plan, at(1, 1)), (1, -2))
        self.assertEqual(rounds_under(plan, at(1, 3)), (0, 0))
        self.assertEqual(rounds_under(plan, at(1, -1)), (0, 0))

    def test_on_pieces_and_corners(self):
        plan = plan_of([[SQUARE]])
        answers = {"0,0": 0, "2,0": 0, "1,0": 0, "0,2": 1, "1,2": 1, "0,1": 1, "2,1": 0, "2,2": 0}
        for text, answer in answers.items():
            self.assertEqual(rounds_under(plan, dots(text)[0]), (answer,), text)

    def test_of_no_pieces(self):
        for many in (0, 1, 5):
            self.assertEqual(rounds_under((many, []), at(3, 4)), (0,) * many)

    def test_points_of_all_sorts(self):
        chance = chance_of(42)
        for number in range(20):
            layers = some_layers(chance, number % 3 + 1)
            plan = plan_of(layers)
            for p in samples(all_sides(layers)):
                self.assertEqual(rounds_under(plan, p), tuple([rounds_by_rule(rings, p) for rings in layers]))

    def test_what_is_handed_in_stays(self):
        plan = (1, pieces_by(FRAME))
        rounds_under(plan, at(1, 1))
        self.assertEqual(plan, (1, pieces_by(FRAME)))


class Laid(unittest.TestCase):
    def test_the_same_as_drawn_at_once(self):
        chance = chance_of(43)
        for number in range(40):
            one, other = some_layers(chance, number % 3), some_layers(chance, number % 4)
            self.assertEqual(laid_over(plan_of(one), plan_of(other)), plan_of(one + other))

    def test_over_nothing(self):
        frame = (1, pieces_by(FRAME))
        self.assertEqual(laid_over(frame, (0, [])), frame)
        self.assertEqual(laid_over((0, []), frame), frame)
        self.assertEqual(laid_over((2, []), (3, [])), (5, []))
        self.assertEqual(laid_over(frame, (1, [])), plan_of([[SQUARE], []]))
        self.assertEqual(laid_over((1, []), frame), plan_of([[], [SQUARE]]))

    def test_over_itself(self):
        frame = (1, pieces_by(FRAME))
        self.assertEqual(laid_over(frame, frame), plan_of([[SQUARE], [SQUARE]]))

    def test_what_is_handed_in_stays(self):
        one, other = plan_of([[SQUARE]]), plan_of([[dots("1,1 3,1 3,3")]])
        laid_over(one, other)[1].clear()
        laid_over(one, (0, []))[1].clear()
        laid_over((0, []), one)[1].clear()
        self.assertEqual(one, (1, pieces_by(FRAME)))
        self.assertEqual(other, plan_of([[dots("1,1 3,1 3,3")]]))


class Chosen(unittest.TestCase):
    def test_in_any_row_and_several_times(self):
        chance = chance_of(44)
        for number in range(30):
            layers = some_layers(chance, 4, 4)
            plan = plan_of(layers)
            for places in ([0], [3], [1, 2], [2, 1], [3, 2, 1, 0], [0, 1, 2, 3], [1, 1], [0, 2, 0], [2] * 8, []):
                self.assertEqual(chosen_of(plan, places), plan_of([layers[place] for place in places]))

    def test_none(self):
        self.assertEqual(chosen_of(plan_of([[SQUARE]]), []), (0, []))
        self.assertEqual(chosen_of((0, []), []), (0, []))

    def test_points_of_the_others_are_gone(self):
        layers = [[SQUARE], [dots("1,1 3,1 3,3 1,3")]]
        self.assertEqual(chosen_of(plan_of(layers), [0]), (1, pieces_by(FRAME)))

    def test_what_is_handed_in_stays(self):
        plan, places = plan_of([[SQUARE], [STARS[0]]]), [1, 0]
        kept = list(plan[1])
        chosen_of(plan, places)[1].clear()
        chosen_of(plan, [0, 1])[1].clear()
        self.assertEqual((plan, places), ((2, kept), [1, 0]))


class Good(unittest.TestCase):
    def good(self, many, text):
        self.assertEqual(faults_of((many, pieces_by(text))), [])
        self.assertIs(is_plan((many, pieces_by(text))), True)

    def test_no_pieces(self):
        for many in (0, 1, 2, 8, 9, 300, 10 ** 300):
            self.assertIs(is_plan((many, [])), True)

    def test_told_ones(self):
        chance = chance_of(45)
        for number in range(30):
            self.assertIs(is_plan(plan_of(some_layers(chance, number % 5))), True)

    def test_by_hand(self):
        self.good(1, FRAME)
        self.good(1, "0,0 1,5 -7; 0,0 3,1 7; 1,5 3,1 -7")
        self.good(2, "0,0 1,5 -7 0; 0,0 3,1 7 0; 1,5 3,1 -7 0")
        self.good(3, "0,0 1/2,1/3 -7 0 10; 0,0 3,-1 7 0 -10; 1/2,1/3 3,-1 -7 0 10")

    def test_rings_that_touch_in_a_corner(self):
        self.good(1, "0,0 0,2 -1; 0,0 2,0 1; 0,2 2,2 -1; 2,0 2,2 1; 2,2 2,4 -1; 2,2 4,2 1; 2,4 4,4 -1; 4,2 4,4 1")

    def test_layers_that_share_a_piece(self):
        self.good(2, "0,0 0,2 -1 0; 0,0 2,0 1 0; 0,2 2,2 -1 0; 2,0 2,2 1 -1; 2,0 4,0 0 1; 2,2 4,2 0 -1; 4,0 4,2 0 1")

    def test_one_within_another(self):
        self.good(1, "0,0 0,9 -1; 0,0 9,0 1; 0,9 9,9 -1; 1,1 1,2 1; 1,1 2,1 -1; 1,2 2,1 1; 9,0 9,9 1")

    def test_many_layers(self):
        for many in (9, 300):
            passes = tuple(range(1, many + 1))
            turned = tuple([-number for number in passes])
            self.assertIs(is_plan((many, [(at(0, 0), at(0, 1), turned), (at(0, 0), at(1, 0), passes),
                                          (at(0, 1), at(1, 0), turned)])), True)

    def test_long_numbers(self):
        chance = chance_of(46)
        for figures in (12, 300):
            plan = plan_of([[[some_point(chance, figures) for corner in range(4)]]])
            self.assertIs(is_plan(plan), True)
            self.assertEqual(faults_of(plan), [])


class Bad(unittest.TestCase):
    def bad(self, thing):
        self.assertIs(is_plan(thing), False)

    def amiss(self, many, text):
        self.assertNotEqual(faults_of((many, pieces_by(text))), [])
        self.bad((many, pieces_by(text)))

    def instead(self, place, piece):
        pieces = pieces_by(FRAME)
        pieces[place] = piece
        self.bad((1, pieces))

    def test_whatever_is_handed_in(self):
        frame = pieces_by(FRAME)
        for thing in odd_things():
            words = repr(thing)
            self.bad(thing)
            self.bad((1, frame[:3] + [thing]))
            self.bad((1, [thing] + frame))
            if words != "[]":
                self.bad((1, thing))
            if words != "1":
                self.bad((thing, frame))
            for place in range(4):
                a, b, passes = frame[place]
                self.instead(place, thing)
                self.instead(place, (thing, b, passes))
                self.instead(place, (a, thing, passes))
                if words != repr(passes):
                    self.instead(place, (a, b, thing))
                if words != repr(passes[0]):
                    self.instead(place, (a, b, (thing,)))

    def test_kind_of_the_whole(self):
        frame = pieces_by(FRAME)
        for thing in ([1, frame], (1,), (frame,), (1, frame, 0), (1, frame, frame), (1, tuple(frame)),
                      (frame, 1), (1, {}), (1, None), ((1, frame),), (1, "")):
            self.bad(thing)

    def test_many(self):
        for many in (-1, True, False, 0.0, "0", None, (0,), Sore()):
            self.bad((many, []))
        for many in (-1, 0, 2, 8, True, 1.0, "1", None, (1,), 10 ** 300):
            self.bad((many, pieces_by(FRAME)))

    def test_kind_of_a_piece(self):
        a, b, passes = pieces_by(FRAME)[0]
        for piece in ([a, b, passes], (a, b), (a, b, passes, passes), (a, b, passes[0]), (a, b, list(passes)), (),
                      (passes, a, b), ((a, b), passes)):
            self.instead(0, piece)

    def test_ends_that_are_no_points(self):
        a, b, passes = pieces_by(FRAME)[0]
        for end in (list(a), a[:2], a + (1,), (0, 0, 2), (0, 0, -1), (0, 0, 0), (False, 0, 1), (0, False, 1),
                    (0, 0, True), (0.0, 0, 1), None, "0,0"):
            self.instead(0, (end, b, passes))
        for end in (list(b), b[:2], (0, 4, 2), (0, -2, -1), (False, 2, 1), (0, 2, True), (0, 2.0, 1), None):
            self.instead(0, (a, end, passes))

    def test_ends_not_in_order(self):
        self.amiss(1, "0,2 0,0 1; 0,0 2,0 1; 0,2 2,2 -1; 2,0 2,2 1")
        self.amiss(1, "0,0 0,2 -1; 0,0 2,0 1; 2,0 2,2 1; 2,2 0,2 1")
        self.amiss(1, "0,0 0,2 -1; 0,0 2,0 1; 0,2 2,2 -1; 2,2 2,0 -1")

    def test_ends_alike(self):
        self.amiss(1, "0,0 0,0 1")
        self.amiss(1, "0,0 0,0 1; 0,0 0,2 -1; 0,0 2,0 1; 0,2 2,2 -1; 2,0 2,2 1")

    def test_passes(self):
        a, b, passes = pieces_by(FRAME)[0]
        for wrong in ([-1], -1, (), (-1, 0), (-1, -1), (-1.0,), (None,), ("-1",), ((-1,),), "-", {0: -1}):
            self.instead(0, (a, b, wrong))
        a, b, passes = pieces_by(FRAME)[1]
        self.instead(1, (a, b, (True,)))
        self.instead(1, (a, b, (1.0,)))

    def test_truths_in_passes(self):
        pieces = [(a, b, passes + (False,)) for a, b, passes in pieces_by(FRAME)]
        self.bad((2, pieces))
        self.bad((1, [(a, b, (True,)) for a, b, passes in pieces_by(FRAME)]))

    def test_passes_that_are_all_nought(self):
        self.amiss(1, "0,0 0,2 0; 0,0 2,0 0; 0,2 2,2 0; 2,0 2,2 0")
        self.amiss(2, "0,0 0,2 0 0; 0,0 2,0 0 0; 0,2 2,2 0 0; 2,0 2,2 0 0")
        self.amiss(1, "0,0 0,2 -1; 0,0 2,0 1; 0,0 2,2 0; 0,2 2,2 -1; 2,0 2,2 1")
        self.amiss(1, "0,0 0,2 -1; 0,0 2,0 1; 0,2 2,2 -1; 2,0 2,2 1; 5,5 6,6 0")

    def test_no_layers_and_pieces(self):
        self.amiss(0, "0,0 0,2; 0,0 2,0; 0,2 2,2; 2,0 2,2")
        self.amiss(0, "0,0 0,2")
        self.bad((0, pieces_by(FRAME)))

    def test_row(self):
        pieces = pieces_by(FRAME)
        for k in range(3):
            self.bad((1, pieces[:k] + [pieces[k + 1], pieces[k]] + pieces[k + 2:]))
        self.bad((1, pieces[::-1]))

    def test_both_ends_alike(self):
        self.amiss(1, "0,0 0,2 -1; 0,0 0,2 -1; 0,0 2,0 2; 0,2 2,2 -2; 2,0 2,2 2")
        self.amiss(1, "0,0 1,0 1; 0,0 1,0 -1")

    def test_crossing(self):
        self.amiss(1, "0,0 0,2 -1; 0,0 2,2 1; 0,2 2,0 -1; 2,0 2,2 -1")
        self.amiss(2, "0,0 0,2 -1 0; 0,0 2,0 1 0; 0,2 2,2 -1 0; 1,1 1,3 0 -1; 1,1 3,1 0 1; 1,3 3,3 0 -1; 2,0 2,2 1 0;"
                      "3,1 3,3 0 1")

    def test_an_end_on_another(self):
        self.amiss(1, "0,0 0,2 -1; 0,0 4,0 1; 0,2 4,2 -1; 1,-1 2,0 -1; 1,-1 3,-1 1; 2,0 3,-1 -1; 4,0 4,2 1")
        self.amiss(1, "0,0 0,4 -1; 0,0 4,0 1; 0,2 1,1 1; 0,2 1,2 -1; 0,4 4,0 -1; 1,1 1,2 1")
        self.amiss(1, "2,1 2,3 -1; 2,1 4,2 1; 2,3 4,2 -1; 4,0 4,4 -1; 4,0 8,0 1; 4,4 8,4 -1; 8,0 8,4 1")

    def test_overlapping(self):
        self.amiss(2, "0,0 0,4 -1 0; 0,0 4,0 1 0; 0,4 4,0 -1 0; 1,-1 1,0 0 -1; 1,-1 2,0 0 1; 1,0 2,0 0 -1")
        self.amiss(2, "0,0 0,4 -1 0; 0,0 1,-1 0 1; 0,0 2,0 0 -1; 0,0 4,0 1 0; 0,4 4,0 -1 0; 1,-1 2,0 0 1")

    def test_open(self):
        self.amiss(1, "0,0 0,2 -1")
        self.amiss(1, "0,0 0,2 -1; 0,0 2,0 1; 0,2 2,2 -1")
        self.amiss(1, "0,0 0,2 -1; 0,0 2,0 1; 0,2 2,2 -1; 2,0 2,2 2")
        self.amiss(1, "0,0 0,2 1; 0,0 2,0 1; 0,2 2,2 1; 2,0 2,2 1")
        self.amiss(2, "0,0 0,2 -1 1; 0,0 2,0 1 -1; 0,2 2,2 -1 1; 2,0 2,2 1 1")
        self.amiss(2, "0,0 0,2 -1 1; 0,0 2,0 1 -1; 0,2 2,2 -1 0; 2,0 2,2 1 -1")

    def test_straight(self):
        self.amiss(1, "0,0 0,2 -1; 0,0 1,0 1; 0,2 2,2 -1; 1,0 2,0 1; 2,0 2,2 1")
        self.amiss(1, "0,0 0,1 -1; 0,0 2,0 1; 0,1 0,2 -1; 0,2 2,2 -1; 2,0 2,2 1")
        self.amiss(1, "0,0 0,9 -1; 0,0 3,1 1; 0,9 9,3 -1; 3,1 6,2 1; 6,2 9,3 1")

    def test_pieces_of_two_plans_in_one_row(self):
        chance = chance_of(48)
        answers = []
        for number in range(200):
            one, other = [plan_of([[grid_ring(chance, 3, 4, (1,))]])[1] for two in "ab"]
            pieces = [(a, b, passes + (0,)) for a, b, passes in one]
            pieces = pieces + [(a, b, (0,) + passes) for a, b, passes in other]
            plan = (2, sorted(pieces, key=lambda piece: (place(piece[0]), place(piece[1]))))
            answers.append(is_plan(plan))
            self.assertIs(answers[-1], faults_of(plan) == [])
        self.assertGreater(answers.count(True), 9)
        self.assertGreater(answers.count(False), 99)

    def test_told_ones_with_one_thing_changed(self):
        chance = chance_of(47)
        for number in range(60):
            many, pieces = plan_of(some_layers(chance, 2))
            if pieces:
                k = chance.randrange(len(pieces))
                a, b, passes = pieces[k]
                aside = some_point(chance)
                self.bad((many, pieces[:k] + pieces[k + 1:]))
                self.bad((many, pieces[:k + 1] + pieces[k:]))
                self.bad((many, pieces[:k] + [(a, b, (passes[0] + 1, passes[1]))] + pieces[k + 1:]))
                self.bad((many, pieces[:k] + [(b, a, tuple([-n for n in passes]))] + pieces[k + 1:]))
                if aside not in (a, b):
                    self.bad((many, pieces[:k] + [(aside, b, passes)] + pieces[k + 1:]))
                    self.bad((many, pieces[:k] + [(a, aside, passes)] + pieces[k + 1:]))

    def test_what_is_asked_stays(self):
        for text in (FRAME, "0,0 0,2 -1; 0,0 2,2 1; 0,2 2,0 -1; 2,0 2,2 -1", "0,0 0,2 -1"):
            plan = (1, pieces_by(text))
            is_plan(plan)
            self.assertEqual(plan, (1, pieces_by(text)))
