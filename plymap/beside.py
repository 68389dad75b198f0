"""A point right beside a half."""

from plymap.meets import meet
from plymap.points import middle_of, point_of, x_of, y_of
from plymap.ratios import minus, plus
from plymap.spots import cut_at


# From m as far as from p to q, but a quarter of a round farther to the left.
def square_from(m, p, q):
    right = minus(x_of(q), x_of(p))
    up = minus(y_of(q), y_of(p))
    return point_of(minus(x_of(m), up), plus(y_of(m), right))


# Halfway to the first point of another piece, or where there is none all the way, nothing is met.
def beside_of(net, h):
    middle = middle_of(net.start(h), net.end(h))
    aside = square_from(middle, net.start(h), net.end(h))
    met = []
    for number, piece in enumerate(net.plan()[1]):
        if number != h // 2:
            met.extend(meet(middle, aside, piece[0], piece[1]))
    row = cut_at(middle, aside, met)
    return middle_of(middle, row[0]) if row else aside
