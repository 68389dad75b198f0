import unittest

from plymap.net import Net
from plymap.orders import ordered
from plymap.plans import laid_over, plan_of
from tests.helper import (FORMS, PARTS, SQUARE, at, chance_of, corners_by, dots, ends_by, halves_by, pieces_by,
                          samples, some_plans)

PLANS = some_plans(61, 12)
BOW = pieces_by("0,0 0,2 -1; 0,0 1,1 1; 0,2 1,1 -1; 1,1 2,0 -1; 1,1 2,2 1; 2,0 2,2 -1")


def wheel(spokes):
    """A plan of triangles, each from the middle to one spoke and on to the next one."""
    return plan_of([[[at(0, 0), one, other]] for one, other in zip(spokes, spokes[1:])])


def asked(net, points):
    halves = range(net.many())
    return (net.plan(), net.corners(), net.many(), [net.start(h) for h in halves], [net.end(h) for h in halves],
            [net.after(h) for h in halves], [net.halves_at(p) for p in points])


class Halves(unittest.TestCase):
    def test_without_pieces(self):
        for many in (0, 1, 3, 8):
            net = Net((many, []))
            self.assertEqual(net.plan(), (many, []))
            self.assertEqual(net.corners(), [])
            self.assertEqual(net.many(), 0)
            self.assertEqual(net.halves_at(at(0, 0)), [])

    def test_of_a_square(self):
        net = Net(plan_of([FORMS["square"]]))
        self.assertEqual(net.many(), 8)
        self.assertEqual(net.corners(), dots("0,0 0,4 4,0 4,4"))
        self.assertEqual([net.start(h) for h in range(8)], dots("0,0 0,4 0,0 4,0 0,4 4,4 4,0 4,4"))
        self.assertEqual([net.end(h) for h in range(8)], dots("0,4 0,0 4,0 0,0 4,4 0,4 4,4 4,0"))

    def test_of_a_bow(self):
        net = Net((1, BOW))
        self.assertEqual(net.plan(), plan_of([FORMS["bow"]]))
        self.assertEqual(net.many(), 12)
        self.assertEqual(net.corners(), dots("0,0 0,2 1,1 2,0 2,2"))
        self.assertEqual((net.start(6), net.end(6)), (at(1, 1), at(2, 0)))
        self.assertEqual((net.start(7), net.end(7)), (at(2, 0), at(1, 1)))

    def test_of_all_forms(self):
        for plan in PLANS:
            net = Net(plan)
            self.assertEqual(net.plan(), plan)
            self.assertEqual(net.corners(), corners_by(plan))
            self.assertEqual(net.many(), 2 * len(plan[1]))
            self.assertEqual([(net.start(h), net.end(h)) for h in range(net.many())], ends_by(plan))

    def test_the_same_is_told_again(self):
        for plan in (plan_of([FORMS["bow"], FORMS["hole"]]), plan_of([PARTS["two within"]])):
            points = corners_by(plan) + [at(50, 50)]
            handed = (plan[0], list(plan[1]))
            net = Net(handed)
            self.assertEqual(handed, plan)
            first = asked(net, points)
            handed[1].clear()
            for told in (net.plan()[1], net.corners(), net.halves_at(points[0]), net.halves_at(points[-1])):
                told.clear()
                told.append(7)
            self.assertEqual(asked(net, points), first)
            self.assertEqual(first[0], plan)

    def test_told_lists_are_new_ones(self):
        net = Net(plan_of([FORMS["square"]]))
        self.assertIsNot(net.plan()[1], net.plan()[1])
        self.assertIsNot(net.corners(), net.corners())
        self.assertIsNot(net.halves_at(at(0, 0)), net.halves_at(at(0, 0)))
        self.assertIsNot(net.halves_at(at(1, 0)), net.halves_at(at(1, 0)))

    def test_two_nets_know_nothing_of_one_another(self):
        one, other = plan_of([FORMS["bow"]]), plan_of([FORMS["hole"]])
        points = corners_by(laid_over(one, other))
        alone = [asked(Net(one), points), asked(Net(other), points)]
        nets = [Net(one), Net(other)]
        self.assertEqual([asked(net, points) for net in nets], alone)


class Fans(unittest.TestCase):
    def test_of_two(self):
        net = Net(plan_of([FORMS["square"]]))
        self.assertEqual(net.halves_at(at(0, 0)), [2, 0])
        self.assertEqual(net.halves_at(at(0, 4)), [4, 1])
        self.assertEqual(net.halves_at(at(4, 0)), [6, 3])
        self.assertEqual(net.halves_at(at(4, 4)), [5, 7])

    def test_of_four(self):
        net = Net((1, BOW))
        self.assertEqual(net.halves_at(at(1, 1)), [6, 8, 5, 3])

    def test_of_three(self):
        plan = plan_of([[dots("0,0 2,0 1,3")], [dots("0,0 1,3 0,4")]])
        net = Net(plan)
        met = [net.end(h) for h in net.halves_at(at(0, 0))]
        self.assertEqual(met, dots("2,0 1,3 0,4"))
        met = [net.end(h) for h in net.halves_at(at(1, 3))]
        self.assertEqual(met, dots("2,0 0,4 0,0"))

    def test_straight_down_comes_last(self):
        round_about = dots("1,-3 2,-1 3,0 2,1 1,3 0,3 -1,3 -2,1 -3,0 -2,-1 -1,-3 0,-3")
        plan = wheel(round_about + round_about[:1])
        net = Net(plan)
        self.assertEqual([net.end(h) for h in net.halves_at(at(0, 0))], round_about)
        self.assertEqual({net.start(h) for h in net.halves_at(at(0, 0))}, {at(0, 0)})

    def test_all_on_one_side(self):
        for spokes in (dots("1,-9 2,-1 3,1 1,8"), dots("-1,9 -3,1 -2,-1 -1,-9"), dots("3,1 1,1 -1,4 -5,1"),
                       dots("-3,-1 -1,-5 0,-3 1,-2 4,-1"), dots("0,3 -1,1 -2,0 -1,-1 0,-2")):
            plan = wheel(spokes)
            net = Net(plan)
            met = [net.end(h) for h in net.halves_at(at(0, 0))]
            self.assertEqual(sorted(met), sorted(spokes))
            self.assertEqual(net.halves_at(at(0, 0)), halves_by(plan, at(0, 0)))

    def test_all_to_the_right_or_to_the_left(self):
        for spokes in (dots("1,-9 2,-1 3,1 1,8"), dots("-1,9 -3,1 -2,-1 -1,-9"), dots("0,3 -1,1 -2,0 -1,-1 0,-2")):
            net = Net(wheel(spokes))
            self.assertEqual([net.end(h) for h in net.halves_at(at(0, 0))], spokes)

    def test_many(self):
        spokes = [at(30 - abs(k - 30), k - 30) for k in range(61)] + [at(-k, 30 - k) for k in range(1, 30)]
        chance = chance_of(62)
        plan = wheel(chance.sample(spokes, len(spokes)))
        net = Net(plan)
        self.assertGreater(len(net.halves_at(at(0, 0))), 80)
        self.assertEqual(net.halves_at(at(0, 0)), halves_by(plan, at(0, 0)))

    def test_near_one_another(self):
        far = 10 ** 12
        plan = plan_of([[[at(0, 0), at(far, far - 1), at(far - 1, far - 2)]],
                        [[at(0, 0), at(far - 1, far), at(far - 2, far - 1)]]])
        net = Net(plan)
        self.assertEqual([net.end(h) for h in net.halves_at(at(0, 0))],
                         [at(far - 1, far - 2), at(far, far - 1), at(far - 1, far), at(far - 2, far - 1)])

    def test_no_corner(self):
        net = Net(plan_of([FORMS["square"]]))
        for p in dots("2,0 0,1 4,3 1,4 2,2 5,5 -1,0 1/2,0 0,-1"):
            self.assertEqual(net.halves_at(p), [])

    def test_of_all_forms(self):
        chance = chance_of(63)
        for plan in PLANS:
            net = Net(plan)
            points = corners_by(plan) + samples([piece[:2] for piece in plan[1]][:6])[::9]
            told = {p: net.halves_at(p) for p in points}
            self.assertEqual(told, {p: halves_by(plan, p) for p in points})
            for p in chance.sample(points, len(points)):
                self.assertEqual(net.halves_at(p), told[p])


class Behind(unittest.TestCase):
    def test_of_a_square(self):
        net = Net(plan_of([FORMS["square"]]))
        self.assertEqual([net.after(h) for h in range(8)], [4, 2, 6, 0, 7, 1, 5, 3])

    def test_of_a_bow(self):
        net = Net((1, BOW))
        self.assertEqual([net.after(h) for h in range(12)], [4, 2, 5, 0, 8, 1, 10, 3, 11, 6, 9, 7])

    def test_the_first_that_who_turns_right_from_the_twin_meets(self):
        for plan in PLANS:
            net = Net(plan)
            ends = ends_by(plan)
            for h in range(net.many()):
                row = halves_by(plan, ends[h][1])
                twin = h - 1 if h % 2 else h + 1
                self.assertEqual(net.after(h), row[row.index(twin) - 1])

    def test_each_comes_behind_just_one(self):
        for plan in PLANS:
            net = Net(plan)
            self.assertEqual(sorted([net.after(h) for h in range(net.many())]), list(range(net.many())))
            for h in range(net.many()):
                self.assertEqual(net.start(net.after(h)), net.end(h))


class Orders(unittest.TestCase):
    def test_by_a_rule(self):
        chance = chance_of(64)
        for many in range(20):
            numbers = list(range(many))
            mixed = chance.sample(numbers, many)
            handed = list(mixed)
            self.assertEqual(ordered(handed, lambda one, other: one < other), numbers)
            self.assertEqual(ordered(handed, lambda one, other: one > other), numbers[::-1])
            self.assertEqual(handed, mixed)
