"""Turns, round sums, and what lies on a side."""

from plymap.points import is_ahead, point_of, x_of
from plymap.ratios import fraction, total_of


# All points of the straight line through p and q have line[0] * a + line[1] * b + line[2] * c == 0;
# as every c is above 0, those to the left of who goes from p to q have it above 0.
def line_through(p, q):
    return (p[1] * q[2] - p[2] * q[1], p[2] * q[0] - p[0] * q[2], p[0] * q[1] - p[1] * q[0])


def turn_from(line, r):
    lean = line[0] * r[0] + line[1] * r[1] + line[2] * r[2]
    if lean > 0:
        return 1
    if lean < 0:
        return -1
    return 0


def turn(p, q, r):
    return turn_from(line_through(p, q), r)


def twice_of(p, q):
    return fraction(p[0] * q[1] - q[0] * p[1], p[2] * q[2])


def round_sum(points):
    return total_of([twice_of(points[k - 1], points[k]) for k in range(len(points))])


# Along a straight line points come in their order, or all the other way about.
def lies_on(p, a, b):
    if turn(a, b, p) != 0:
        return False
    if is_ahead(a, b):
        return not is_ahead(p, a) and not is_ahead(b, p)
    return not is_ahead(p, b) and not is_ahead(a, p)


def height_at(a, b, x):
    line = line_through(a, b)
    return fraction(-(line[0] * x[0] + line[2] * x[1]), line[1] * x[1])


# The point of the straight line through a and b that lies straight above or below p, or is p.
def point_over(a, b, p):
    x = x_of(p)
    return point_of(x, height_at(a, b, x))
