"""Fractions: tuples (top, bottom) of whole numbers in lowest terms, the bottom 1 or more."""

from plymap.errors import NoNumber


def is_whole(thing):
    return isinstance(thing, int) and not isinstance(thing, bool)


def divisor_of(one, other):
    one = abs(one)
    other = abs(other)
    while other != 0:
        rest = one % other
        one = other
        other = rest
    return one


def fraction(top, bottom):
    if bottom == 0:
        raise NoNumber()
    shared = divisor_of(top, bottom)
    if bottom < 0:
        shared = -shared
    return (top // shared, bottom // shared)


def is_fraction(thing):
    if not isinstance(thing, tuple) or len(thing) != 2:
        return False
    if not all([is_whole(part) for part in thing]):
        return False
    return thing[1] >= 1 and divisor_of(thing[0], thing[1]) == 1


# A number that divides the whole top and the whole bottom divides what both bottoms share.
# So only bottoms are cut down by one another: in a long total the one of them stays small,
# where cutting down each whole sum would take time with the square of its length.
def plus(one, other):
    shared = divisor_of(one[1], other[1])
    left = one[1] // shared
    top = one[0] * (other[1] // shared) + other[0] * left
    spare = divisor_of(top, shared)
    return (top // spare, left * (other[1] // spare))


def minus(one, other):
    return plus(one, (-other[0], other[1]))


def times(one, other):
    return fraction(one[0] * other[0], one[1] * other[1])


# In lowest terms a top is even only where its bottom is odd, so nothing is left to cut down.
def half_of(one):
    return (one[0] // 2, one[1]) if one[0] % 2 == 0 else (one[0], 2 * one[1])


def is_below(one, other):
    return one[0] * other[1] < other[0] * one[1]


def total_of(fractions):
    total = (0, 1)
    for one in fractions:
        total = plus(total, one)
    return total
