import unittest

from plymap.below import seen_below
from plymap.net import Net
from plymap.plans import plan_of
from tests.helper import (FORMS, PARTS, at, corners_by, dots, ends_by, halves_by, height, place, samples,
                          some_plans)

PLANS = some_plans(81, 12)
FAR = 10 ** 300 - 1


def seen_by(plan, p):
    """What is seen below p, word by word."""
    x, y = place(p)
    met = []
    for k, (a, b, passes) in enumerate(plan[1]):
        (xa, ya), (xb, yb) = place(a), place(b)
        if xa < xb and xa <= x <= xb:
            met.append((height((place(a), place(b)), x), 2 * k))
        if xa == xb == x:
            met.extend([(ya, 2 * k), (yb, 2 * k)])
    met = [(level, half) for level, half in met if level < y]
    if not met:
        return None
    z = at(x, max(met)[0])
    if z not in corners_by(plan):
        return max(met)[1]
    halves, ends = halves_by(plan, z), ends_by(plan)
    right = [h for h in halves if place(ends[h][1])[0] > x]
    return (right or halves)[-1]


def is_on_an_upright(plan, p):
    """Whether p lies on an upright piece, but is not its lower end."""
    x, y = place(p)
    return any([place(a)[0] == place(b)[0] == x and place(a)[1] < y <= place(b)[1] for a, b, passes in plan[1]])


class Below(unittest.TestCase):
    def sees(self, net, point, ends):
        """ends: the two ends of the half that is seen, or None."""
        half = seen_below(net, dots(point)[0])
        if ends is None:
            self.assertIsNone(half)
        else:
            self.assertEqual([net.start(half), net.end(half)], dots(ends))

    def test_nothing(self):
        self.assertIsNone(seen_below(Net((0, [])), at(0, 0)))
        self.assertIsNone(seen_below(Net((4, [])), at(7, -9)))
        net = Net(plan_of([FORMS["square"]]))
        for p in ("-1,9", "5,9", "2,-1", "0,-1", "4,-1", "0,0", "4,0", "1,0", "2,0"):
            self.sees(net, p, None)

    def test_pieces(self):
        net = Net(plan_of([FORMS["square"]]))
        self.assertEqual(seen_below(net, at(2, 2)), 2)
        self.assertEqual(seen_below(net, at(2, 9)), 4)
        self.sees(net, "2,4", "0,0 4,0")
        self.sees(net, "1/3,1/9", "0,0 4,0")
        self.sees(net, "1,5", "0,4 4,4")

    def test_the_nearest_of_several(self):
        net = Net(plan_of([[dots("0,0 8,0 8,1 0,1")], [dots("0,3 8,3 8,4 0,5")]]))
        for y, ends in (("1/2", "0,0 8,0"), ("1", "0,0 8,0"), ("2", "0,1 8,1"), ("3", "0,1 8,1"), ("4", "0,3 8,3"),
                        ("9/2", "0,3 8,3"), ("19/4", "0,5 8,4"), ("99", "0,5 8,4")):
            self.sees(net, f"4,{y}", ends)

    def test_slanted_pieces_go_to_the_right(self):
        net = Net(plan_of([[dots("0,0 6,3 6,9")]]))
        self.sees(net, "2,2", "0,0 6,3")
        self.sees(net, "2,9", "0,0 6,9")
        self.sees(net, "2,3", "0,0 6,3")
        self.sees(net, "2,1", None)

    def test_corners_with_halves_to_the_right(self):
        net = Net(plan_of([[dots("0,0 4,-3 4,-1")], [dots("0,0 4,1 4,2")]]))
        self.sees(net, "0,5", "0,0 4,2")
        self.sees(net, "0,1/9", "0,0 4,2")
        self.sees(net, "0,0", None)
        net = Net(plan_of([[dots("0,0 4,-3 4,-1")], [dots("0,0 -4,1 -4,2")]]))
        self.sees(net, "0,5", "0,0 4,-1")

    def test_corners_with_halves_to_the_left_alone(self):
        net = Net(plan_of([[dots("4,0 0,-3 0,-1")], [dots("4,0 0,1 0,2")]]))
        self.sees(net, "4,5", "4,0 0,-3")

    def test_corners_with_upright_halves(self):
        net = Net(plan_of([FORMS["square"]]))
        self.sees(net, "0,9", "0,4 4,4")
        self.sees(net, "4,9", "4,4 4,0")
        net = Net(plan_of([[dots("0,0 0,4 -2,2")]]))
        self.sees(net, "0,9", "0,4 0,0")
        self.sees(net, "0,0", None)
        net = Net(plan_of([[dots("0,0 0,4 2,2")]]))
        self.sees(net, "0,9", "0,4 2,2")

    def test_the_lower_end_of_an_upright_piece(self):
        net = Net(plan_of([[dots("0,0 0,4 2,2")], [dots("-3,-3 3,-3 3,-1")]]))
        self.sees(net, "0,0", "-3,-3 3,-1")
        net = Net(plan_of([[dots("0,0 0,4 2,2")], [dots("-3,-2 0,-3 0,-1")]]))
        self.sees(net, "0,0", "0,-1 0,-3")

    def test_above_an_upright_piece_stands_another_one(self):
        net = Net(plan_of([PARTS["uprights"]]))
        self.sees(net, "0,3", "0,1 1,1")
        self.sees(net, "1,5/2", "1,2 2,2")
        self.sees(net, "0,10", "0,9 1,6")
        self.sees(net, "2,5/2", "2,2 2,1")

    def test_straight_above_and_below_corners(self):
        net = Net(plan_of([PARTS["one above the corner of another"]]))
        self.sees(net, "1,2", "1,1 2,0")
        self.sees(net, "1,3/2", "1,1 2,0")
        self.sees(net, "1,1", "0,0 2,0")
        self.sees(net, "1,1/2", "0,0 2,0")
        self.sees(net, "2,2", "2,0 0,0")
        self.sees(net, "2,4", "2,3 3,2")
        self.sees(net, "2,-1", None)

    def test_far_and_near(self):
        net = Net(plan_of([FORMS["square"]]))
        self.assertEqual(seen_below(net, (2, FAR, 1)), 4)
        self.assertEqual(seen_below(net, (2 * FAR, 4 * FAR + 1, FAR)), 4)
        self.assertEqual(seen_below(net, (2 * FAR, 4 * FAR - 1, FAR)), 2)
        self.assertEqual(seen_below(net, (2 * FAR, 1, FAR)), 2)
        self.assertIsNone(seen_below(net, (2 * FAR, -1, FAR)))
        self.assertIsNone(seen_below(net, (4 * FAR + 1, 5 * FAR, FAR)))
        self.assertEqual(seen_below(net, (4 * FAR - 1, 5 * FAR, FAR)), 4)
        self.assertIsNone(seen_below(net, (-1, 5 * FAR, FAR)))

    def test_of_all_forms(self):
        for plan in PLANS:
            net = Net(plan)
            points = samples([piece[:2] for piece in plan[1]], 1 + len(plan[1]) // 12)[::1 + len(plan[1]) // 8]
            for p in points + corners_by(plan)[::1 + len(plan[1]) // 30]:
                if not is_on_an_upright(plan, p):
                    self.assertEqual(seen_below(net, p), seen_by(plan, p), (plan, p))
