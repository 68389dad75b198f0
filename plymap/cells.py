"""The cells of a grid, and which of them a side meets."""

from plymap.errors import NoSize
from plymap.points import point_by


def check_size(size):
    if size[0] <= 0:
        raise NoSize()


# The whole number k for which top / bottom is k - 1/2 or more, but less than k + 1/2.
def nearest_to(top, bottom):
    return (2 * top + bottom) // (2 * bottom)


def cell_of(p, size):
    check_size(size)
    bottom = p[2] * size[0]
    return (nearest_to(p[0] * size[1], bottom), nearest_to(p[1] * size[1], bottom))


def cell_middle(cell, size):
    check_size(size)
    return point_by(cell[0] * size[0], cell[1] * size[0], size[1])


# A side on the way from p to q, in whole numbers: where it starts and how far it goes, in x and in y, the breadth of
# half a cell, and how long the whole way counts, so that each bound of a cell is met after a whole number of steps.
class Track:
    def __init__(self, p, q, size):
        scale = 2 * size[1]
        self.begin = (scale * p[0] * q[2], scale * p[1] * q[2])
        self.far = (scale * q[0] * p[2] - self.begin[0], scale * q[1] * p[2] - self.begin[1])
        self.half = size[0] * p[2] * q[2]
        self.length = max(abs(self.far[0]), 1) * max(abs(self.far[1]), 1)


# From where to where of a track, in x (axis 0) or in y (axis 1), row k of cells is met, as two tuples (steps, touch):
# a touch of 1 is right behind so many steps, -1 right ahead of them, as the upper bound of a cell is not its own.
def span_on(track, axis, k):
    low = (2 * k - 1) * track.half - track.begin[axis]
    high = (2 * k + 1) * track.half - track.begin[axis]
    far = track.far[axis]
    if far == 0:
        return ((0, 0), (track.length, 0)) if low <= 0 < high else ((0, 0), (0, -1))
    scale = track.length // abs(far)
    if far > 0:
        return ((low * scale, 0), (high * scale, -1))
    return ((-high * scale, 1), (-low * scale, 0))


# Where on a track a cell is met first, or None where it is not met at all.
def first_met(track, cell):
    across = span_on(track, 0, cell[0])
    upward = span_on(track, 1, cell[1])
    first = max((0, 0), across[0], upward[0])
    last = min((track.length, 0), across[1], upward[1])
    return first if first <= last else None


def meets_cell(p, q, cell, size):
    check_size(size)
    return first_met(Track(p, q, size), cell) is not None


def hot_cells(plan, size):
    check_size(size)
    hot = {}
    for a, b, passes in plan[1]:
        hot[cell_of(a, size)] = True
        hot[cell_of(b, size)] = True
    return sorted(hot)
