"""A point of its own for each face, and how often each layer goes round the face."""

from plymap.meets import ends_in_order
from plymap.plans import rounds_under
from plymap.points import in_order, is_left_of, middle_of, shifted
from plymap.rings import halves_of
from plymap.turns import point_over


def outer_point(net):
    corners = net.corners()
    return shifted(corners[0], -1, 0) if corners else (0, 0, 1)


# Where pieces with one of these halves pass straight above or below m, the lowest point first.
def points_over(net, halves, m):
    found = []
    for half in halves:
        ends = ends_in_order(net.start(half), net.end(half))
        if is_left_of(ends[0], m) and is_left_of(m, ends[1]):
            found.append(point_over(ends[0], ends[1], m))
    return in_order(found)


# Straight above and below m, between p and the next x of a corner, no piece of the rings begins or ends.
def inner_point(net, rings):
    halves = halves_of(rings)
    p = net.start(rings[0][0])
    lowest = [half for half in net.halves_at(p) if half in rings[0]][0]
    right = in_order([net.start(half) for half in halves if is_left_of(p, net.start(half))])
    m = middle_of(p, right[0])
    low = point_over(p, net.end(lowest), m)
    row = points_over(net, halves, m)
    return middle_of(low, row[row.index(low) + 1])


def own_point(faces, f):
    rings = faces.rings_at(f)
    if f == 0:
        return outer_point(faces.net())
    return inner_point(faces.net(), rings)


def rounds_of(faces, f):
    p = own_point(faces, f)
    return rounds_under(faces.net().plan(), p)
