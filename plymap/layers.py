"""Layers of rings, their sides, and how often rings go round a point."""

from plymap.errors import BadLayer
from plymap.points import is_left_of, is_point
from plymap.turns import turn

MOST_RINGS = 4
LEAST_POINTS = 3
MOST_POINTS = 12
MOST_TOP = 1000000000000
MOST_BOTTOM = 1000000


def is_list_of(thing, least, most):
    return isinstance(thing, list) and least <= len(thing) <= most


def is_layer_point(thing):
    if not is_point(thing):
        return False
    return abs(thing[0]) <= MOST_TOP and abs(thing[1]) <= MOST_TOP and thing[2] <= MOST_BOTTOM


def check_ring(number, ring):
    if not is_list_of(ring, LEAST_POINTS, MOST_POINTS):
        raise BadLayer(number, 0)
    for at, thing in enumerate(ring):
        if not is_layer_point(thing):
            raise BadLayer(number, at)
        if at > 0 and thing == ring[at - 1]:
            raise BadLayer(number, at)
    if ring[0] == ring[-1]:
        raise BadLayer(number, len(ring) - 1)


def layer_of(rings):
    if not is_list_of(rings, 1, MOST_RINGS):
        raise BadLayer(0, 0)
    for number, ring in enumerate(rings):
        check_ring(number, ring)
    return [list(ring) for ring in rings]


def sides_of(rings):
    sides = []
    for ring in rings:
        sides.extend([(p, q) for p, q in zip(ring, ring[1:] + ring[:1])])
    return sides


# 1 where the side from u to v goes under p to the right, -1 where to the left, else 0.
def goes_under(u, v, p):
    if not is_left_of(p, u) and is_left_of(p, v):
        return 1 if turn(u, v, p) == 1 else 0
    if not is_left_of(p, v) and is_left_of(p, u):
        return -1 if turn(u, v, p) == -1 else 0
    return 0


def rounds_about(rings, p):
    return sum([goes_under(u, v, p) for u, v in sides_of(rings)])
