"""What is seen straight below a point."""

from plymap.points import is_ahead, is_left_of
from plymap.turns import point_over


# The highest point of the piece from a to b that lies straight below p, or None.
def met_below(a, b, p):
    if is_left_of(p, a) or is_left_of(b, p):
        return None
    z = point_over(a, b, p) if is_left_of(a, b) else b
    return z if is_ahead(z, p) else None


# Straight above a corner lies the left of the last half that goes to the right, or of the last one at all.
def half_above(net, z):
    halves = net.halves_at(z)
    right = [half for half in halves if is_left_of(z, net.end(half))]
    return right[-1] if right else halves[-1]


def seen_below(net, p):
    seen = None
    highest = None
    for number, piece in enumerate(net.plan()[1]):
        z = met_below(piece[0], piece[1], p)
        if z is not None and (highest is None or is_ahead(highest, z)):
            highest = z
            seen = 2 * number
    if highest is None or len(net.halves_at(highest)) == 0:
        return seen
    return half_above(net, highest)
