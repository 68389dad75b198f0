import unittest

from plymap.net import Net
from plymap.plans import plan_of
from plymap.rings import parts_of, rings_of, row_of
from tests.helper import (FORMS, PARTS, at, corners_by, dots, ends_by, halves_by, pieces_by, place, some_plans)

PLANS = some_plans(71, 12)


def net_of(*layers):
    return Net(plan_of(list(layers)))


def rows_of(net):
    return [row_of(net, ring) for ring in rings_of(net)]


def behind_by(plan):
    ends = ends_by(plan)
    behind = []
    for h in range(len(ends)):
        row = halves_by(plan, ends[h][1])
        behind.append(row[row.index(h + 1 - 2 * (h % 2)) - 1])
    return behind


def rings_by(plan):
    """The rings, word by word: round from each half, turned to the half that leads, then put in their row."""
    ends, behind, found = ends_by(plan), behind_by(plan), {}
    for h in range(len(ends)):
        ring = [h]
        while behind[ring[-1]] != h:
            ring.append(behind[ring[-1]])
        keys = [(place(ends[g][0]), place(ends[g][1])) for g in ring]
        lead = keys.index(min(keys))
        found[min(keys)] = ring[lead:] + ring[:lead]
    return [found[key] for key in sorted(found)]


def parts_by(plan):
    """The parts, by joining the parts of both ends of each piece."""
    parts = {p: {p} for p in corners_by(plan)}
    for a, b, passes in plan[1]:
        whole = parts[a] | parts[b]
        parts.update({p: whole for p in whole})
    told = {tuple(sorted(part, key=place)) for part in parts.values()}
    return [list(part) for part in sorted(told, key=lambda part: place(part[0]))]


def hang_together(pieces, p, q):
    found, left = {p}, [p]
    while left:
        z = left.pop()
        for a, b, passes in pieces:
            for one, other in ((a, b), (b, a)):
                if one == z and other not in found:
                    found.add(other)
                    left.append(other)
    return q in found


class Rings(unittest.TestCase):
    def test_without_pieces(self):
        for many in (0, 2):
            self.assertEqual(rings_of(Net((many, []))), [])

    def test_of_a_square(self):
        net = net_of(FORMS["square"])
        self.assertEqual(rings_of(net), [[0, 4, 7, 3], [2, 6, 5, 1]])
        self.assertEqual(rows_of(net), [dots("0,0 0,4 4,4 4,0"), dots("0,0 4,0 4,4 0,4")])

    def test_of_a_bow(self):
        net = net_of(FORMS["bow"])
        self.assertEqual(rings_of(net), [[0, 4, 8, 11, 7, 3], [2, 5, 1], [6, 10, 9]])

    def test_the_way_round_does_not_hang_on_passes(self):
        for name in ("turned about", "twice round"):
            self.assertEqual(rows_of(net_of(FORMS[name])), rows_of(net_of(FORMS["square"])))

    def test_rows_that_come_by_a_point_several_times(self):
        self.assertEqual(rows_of(net_of(FORMS["bow"]))[0], dots("0,0 0,2 1,1 2,2 2,0 1,1"))
        rows = rows_of(net_of([dots("0,0 2,-1 1,-2"), dots("0,0 2,1 2,2"), dots("0,0 -2,1 -2,0")]))
        self.assertEqual(rows[0], dots("-2,0 -2,1 0,0 2,2 2,1 0,0 2,-1 1,-2 0,0"))
        self.assertEqual(rows[0].count(at(0, 0)), 3)

    def test_of_several_with_the_least_start_the_least_end_leads(self):
        net = net_of([dots("0,0 2,-2 3,-1"), dots("0,0 1,2 2,1")])
        coast = rings_of(net)[0]
        self.assertEqual([net.start(coast[0]), net.end(coast[0])], dots("0,0 1,2"))
        self.assertEqual(row_of(net, coast), dots("0,0 1,2 2,1 0,0 3,-1 2,-2"))
        net = net_of([dots("0,0 3,-2 3,-1"), dots("0,0 3,2 4,4")])
        coast = rings_of(net)[1]
        self.assertEqual([net.start(coast[0]), net.end(coast[0])], dots("0,0 3,-1"))
        self.assertEqual(row_of(net, coast), dots("0,0 3,-1 3,-2 0,0 4,4 3,2"))

    def test_rings_in_their_row(self):
        net = net_of([dots("0,0 3,-2 3,-1"), dots("0,0 3,2 4,4"), dots("1,0 2,-1/2 2,1/2")])
        leads = [(net.start(ring[0]), net.end(ring[0])) for ring in rings_of(net)]
        self.assertEqual(leads, [tuple(dots(text)) for text in
                                 ("0,0 3,-2", "0,0 3,-1", "0,0 3,2", "1,0 2,-1/2", "1,0 2,1/2")])

    def test_of_all_forms(self):
        for plan in PLANS:
            net = Net(plan)
            rings = rings_of(net)
            self.assertEqual(rings, rings_by(plan))
            ends = ends_by(plan)
            self.assertEqual([row_of(net, ring) for ring in rings], [[ends[h][0] for h in ring] for ring in rings])

    def test_each_half_in_just_one_ring_and_never_with_its_twin(self):
        for plan in PLANS:
            rings = rings_of(Net(plan))
            self.assertEqual(sorted([h for ring in rings for h in ring]), list(range(2 * len(plan[1]))))
            for ring in rings:
                self.assertEqual([h for h in ring if h ^ 1 in ring], [])

    def test_a_row_of_other_halves(self):
        net = net_of(FORMS["square"])
        self.assertEqual(row_of(net, []), [])
        self.assertEqual(row_of(net, [7, 7, 0]), dots("4,4 4,4 0,0"))

    def test_what_is_told_is_new(self):
        net = net_of(FORMS["hole"])
        first = rings_of(net)
        kept = [list(ring) for ring in first]
        for ring in first:
            row_of(net, ring).clear()
        self.assertEqual(first, kept)
        for ring in first:
            ring.clear()
        first.clear()
        self.assertEqual(rings_of(net), kept)


class Parts(unittest.TestCase):
    def test_of_none_and_one(self):
        self.assertEqual(parts_of(Net((3, []))), [])
        self.assertEqual(parts_of(net_of(FORMS["square"])), [dots("0,0 0,4 4,0 4,4")])
        self.assertEqual(parts_of(net_of(FORMS["bow"])), [dots("0,0 0,2 1,1 2,0 2,2")])

    def test_of_several(self):
        self.assertEqual(parts_of(net_of(PARTS["two beside"])), [dots("0,0 0,1 1,0 1,1"), dots("3,1 4,0 4,2")])
        self.assertEqual(parts_of(net_of(FORMS["hole"])), [dots("0,0 0,4 4,0 4,4"), dots("1,1 1,3 3,1 3,3")])
        self.assertEqual(parts_of(net_of([dots("5,0 6,0 6,1")], [dots("2,9 3,9 3,8")], [dots("5,-2 6,-2 6,-1")])),
                         [dots("2,9 3,8 3,9"), dots("5,-2 6,-2 6,-1"), dots("5,0 6,0 6,1")])

    def test_touching_parts_are_one(self):
        self.assertEqual(len(parts_of(net_of(FORMS["corner on a corner"]))), 1)
        self.assertEqual(len(parts_of(net_of(FORMS["corner on a side"]))), 1)
        self.assertEqual(len(parts_of(net_of(PARTS["a chain of corners"]))), 1)
        self.assertEqual(len(parts_of(net_of(PARTS["within and within"]))), 3)

    def test_of_all_forms(self):
        for plan in PLANS:
            net = Net(plan)
            parts = parts_of(net)
            self.assertEqual(parts, parts_by(plan))
            self.assertEqual(len(net.corners()) - len(plan[1]) + len(rings_of(net)), 2 * len(parts))

    def test_no_piece_is_the_only_way_between_its_ends(self):
        for plan in PLANS[::4]:
            for k, (a, b, passes) in enumerate(plan[1]):
                self.assertTrue(hang_together(plan[1][:k] + plan[1][k + 1:], a, b))

    def test_a_long_row_of_corners(self):
        low = [at(k, k % 2) for k in range(600)]
        high = [at(k, 5 + k % 2) for k in range(600)]
        net = net_of([low + high[::-1]])
        self.assertEqual(parts_of(net), [[p for pair in zip(low, high) for p in pair]])

    def test_what_is_told_is_new(self):
        net = net_of(FORMS["hole"])
        first = parts_of(net)
        kept = [list(part) for part in first]
        first[0].clear()
        first.clear()
        self.assertEqual(parts_of(net), kept)

    def test_of_a_plan_handed_in(self):
        net = Net((2, pieces_by("0,0 1,2 0 -3; 0,0 2,1 0 3; 1,2 2,1 0 -3")))
        self.assertEqual(parts_of(net), [dots("0,0 1,2 2,1")])
        self.assertEqual(rows_of(net), [dots("0,0 1,2 2,1"), dots("0,0 2,1 1,2")])
