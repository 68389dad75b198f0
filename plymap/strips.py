"""The ground about sides, parted into strips with doors between them.

No two corners of the sides may lie straight above one another.
"""

from plymap.meets import ends_in_order
from plymap.net import fan_of
from plymap.points import in_order, middle_of, shifted
from plymap.turns import point_over, turn


# The ground above a side, its floor, and below another one, its roof, between the upright lines through two corners,
# each None where nothing bounds it. A door (number, z, step) leads to the strip of this number over the upright line
# through the corner z, between z and the floor where the step is -1, between z and the roof where it is 1.
class Strip:
    def __init__(self, floor, roof, left):
        self.floor = floor
        self.roof = roof
        self.left = left
        self.right = None
        self.doors = []


# An upright line that goes over the plane from left to right: the sides that it meets, from below, and the numbers of
# the strips below, between and above them.
class Sweep:
    def __init__(self):
        self.sides = []
        self.passed = [0]
        self.strips = [Strip(None, None, None)]

    def sides_below(self, p):
        return len([side for side in self.sides if turn(side[0], side[1], p) == 1])

    def strip_of(self, p):
        return self.passed[self.sides_below(p)]

    def open_strips(self, edges, z):
        first = len(self.strips)
        self.strips.extend([Strip(floor, roof, z) for floor, roof in zip(edges, edges[1:])])
        return list(range(first, len(self.strips)))

    def add_door(self, one, other, z, step):
        self.strips[one].doors.append((other, z, step))
        self.strips[other].doors.append((one, z, step))

    # At the corner z all sides end that are met there, and those begin that are handed in, from below. Of the strips
    # that are shut and opened there just the lowest and the highest ones have more than z itself in common.
    def pass_corner(self, z, begun):
        low = self.sides_below(z)
        high = low + len([side for side in self.sides if side[1] == z])
        floor = self.sides[low - 1] if low > 0 else None
        roof = self.sides[high] if high < len(self.sides) else None
        shut = self.passed[low:high + 1]
        opened = self.open_strips([floor] + begun + [roof], z)
        for number in shut:
            strip = self.strips[number]
            strip.right = z
        self.add_door(shut[0], opened[0], z, -1)
        self.add_door(shut[-1], opened[-1], z, 1)
        self.sides = self.sides[:low] + begun + self.sides[high:]
        self.passed = self.passed[:low] + opened + self.passed[high + 1:]


# From each corner to the sides that begin there, as tuples (side, end).
def begun_at(sides):
    begun = {}
    for p, q in sides:
        ends = ends_in_order(p, q)
        begun.setdefault(ends[0], []).append((ends, ends[1]))
        begun.setdefault(ends[1], [])
    return begun


# All strips, and the numbers of those in which the points lie.
def swept(sides, points):
    begun = begun_at(sides)
    sweep = Sweep()
    homes = {}
    for z in in_order(list(begun) + points):
        if z in begun:
            sweep.pass_corner(z, fan_of(z, begun[z]))
        else:
            homes[z] = sweep.strip_of(z)
    return (sweep.strips, [homes[p] for p in points])


def over(side, p):
    return None if side is None else point_over(side[0], side[1], p)


# Halfway between two points; where there is but one of them, a step on from it.
def amid(one, other, right, up):
    if one is None:
        return shifted(other, -right, -up)
    return shifted(one, right, up) if other is None else middle_of(one, other)


def midst_of(strip):
    p = amid(strip.left, strip.right, 1, 0)
    if strip.floor is None and strip.roof is None:
        return p
    return amid(over(strip.floor, p), over(strip.roof, p), 0, 1)


def point_in_door(strip, z, step):
    if step == -1:
        return amid(over(strip.floor, z), z, 0, 1)
    return amid(z, over(strip.roof, z), 0, 1)
