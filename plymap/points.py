"""Points: tuples (a, b, c) of whole numbers in lowest terms, at x = a / c and y = b / c, c 1 or more."""

from plymap.errors import NoPoint
from plymap.orders import ordered
from plymap.ratios import divisor_of, fraction, is_whole


def point_by(a, b, c):
    if c == 0:
        raise NoPoint()
    shared = divisor_of(divisor_of(a, b), c)
    if c < 0:
        shared = -shared
    return (a // shared, b // shared, c // shared)


def point_of(x, y):
    return point_by(x[0] * y[1], y[0] * x[1], x[1] * y[1])


def is_point(thing):
    if not isinstance(thing, tuple) or len(thing) != 3:
        return False
    if not all([is_whole(part) for part in thing]):
        return False
    return thing[2] >= 1 and divisor_of(divisor_of(thing[0], thing[1]), thing[2]) == 1


def x_of(p):
    return fraction(p[0], p[2])


def y_of(p):
    return fraction(p[1], p[2])


def is_left_of(p, q):
    return p[0] * q[2] < q[0] * p[2]


def is_ahead(p, q):
    here = p[0] * q[2]
    there = q[0] * p[2]
    if here != there:
        return here < there
    return p[1] * q[2] < q[1] * p[2]


def in_order(points):
    return ordered(list(dict([(p, True) for p in points])), is_ahead)


def ranks_of(points):
    return dict([(p, rank) for rank, p in enumerate(in_order(points))])


def middle_of(p, q):
    return point_by(p[0] * q[2] + q[0] * p[2], p[1] * q[2] + q[1] * p[2], 2 * p[2] * q[2])


def shifted(p, right, up):
    return point_by(p[0] + right * p[2], p[1] + up * p[2], p[2])
