"""What two sides share."""

from plymap.points import is_ahead, point_by
from plymap.turns import line_through, turn_from


def ends_in_order(a, b):
    return (a, b) if is_ahead(a, b) else (b, a)


def shared_on_line(a, b, c, d):
    one = ends_in_order(a, b)
    other = ends_in_order(c, d)
    low = other[0] if is_ahead(one[0], other[0]) else one[0]
    high = one[1] if is_ahead(one[1], other[1]) else other[1]
    if low == high:
        return (low,)
    return (low, high) if is_ahead(low, high) else ()


# Which point lies on two lines is reckoned with the same sums as which line goes through two points.
def crossing_of(one, other):
    numbers = line_through(one, other)
    return point_by(numbers[0], numbers[1], numbers[2])


def meet(a, b, c, d):
    one = line_through(a, b)
    if turn_from(one, c) == turn_from(one, d):
        return shared_on_line(a, b, c, d) if turn_from(one, c) == 0 else ()
    other = line_through(c, d)
    if turn_from(other, a) == turn_from(other, b):
        return ()
    return (crossing_of(one, other),)
