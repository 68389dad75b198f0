"""What the tests share: odd things to hand in, and the plane reckoned once more with Python's own fractions."""

import random
from fractions import Fraction

from plymap.points import point_by, point_of


class Sore:
    """A thing that can't be compared, hashed, counted or asked for its truth."""

    __hash__ = None

    def __eq__(self, other):
        raise RuntimeError("compared")

    def __bool__(self):
        raise RuntimeError("asked for its truth")

    def __len__(self):
        raise RuntimeError("counted")


def odd_things():
    own = []
    own.append(own)
    return [
        None, True, False, 0, 1, -1, 10 ** 700, 0.5, float("nan"), float("inf"), 1j, "", "a", "1/2", "1,2",
        b"", b"ab", bytearray(b"abc"), [], [1], [1, 2], [1, 2, 3], [[]], [[], []], own, (), (1,), (None,),
        (None, None), (None, None, None), (1, 2, 3, 4), ((1, 2),), ((1, 2), (3, 4)), ((1, 1), 1), (1, (1,)),
        ((1, 2, 3),), ((1, 2, 3), 2, 3), (1, 2, (3,)), ("1", "2"), ("1", "2", "3"), (1, "2"), (1, 2, "3"),
        (0.0, 1.0), (1.0, 2), (1, 2.0), (0.0, 0.0, 1.0), (0, 0, 1.0), (0, 1j), {}, {1: 2}, {1, 2}, frozenset(),
        range(2), range(3), object(), object, int, len, Sore(), (Sore(), Sore()), (Sore(), 1, 1), (1, 1, Sore()),
        [Sore(), Sore(), Sore()], (1, Sore()), Fraction(1, 2), (Fraction(1), Fraction(2)), Ellipsis,
        NotImplemented, iter([1, 2]), ([1], 2), ([1], [2], 3), (0, [Sore()]), (1, [None]), (1, None), (0, ()),
    ]


def as_fraction(one):
    return Fraction(one[0], one[1])


def told(number):
    return (number.numerator, number.denominator)


def place(p):
    return (Fraction(p[0], p[2]), Fraction(p[1], p[2]))


def at(x, y):
    """The point at x, y: whole numbers, fractions, or texts of fractions."""
    return point_of(told(Fraction(x)), told(Fraction(y)))


def dots(text):
    """Points written as 0,0 1/2,3 .."""
    return [at(*word.split(",")) for word in text.split()]


def lean(p, q, r):
    (xp, yp), (xq, yq), (xr, yr) = place(p), place(q), place(r)
    number = (xq - xp) * (yr - yp) - (yq - yp) * (xr - xp)
    return (number > 0) - (number < 0)


def is_on(p, a, b):
    """Whether p is a + t (b - a), t from 0 to 1."""
    (xp, yp), (xa, ya), (xb, yb) = place(p), place(a), place(b)
    t = (xp - xa) / (xb - xa) if xa != xb else (yp - ya) / (yb - ya)
    return 0 <= t <= 1 and (xa + t * (xb - xa), ya + t * (yb - ya)) == (xp, yp)


def ring_sides(rings):
    return [(ring[k], ring[(k + 1) % len(ring)]) for ring in rings for k in range(len(ring))]


def winding(rings, p):
    """How often rings go round p, by a ray to the right: it knows nothing of what lies below p."""
    x, y = place(p)
    number = 0
    for u, v in ring_sides(rings):
        (xu, yu), (xv, yv) = place(u), place(v)
        if (yu <= y) != (yv <= y):
            cut = xu + (y - yu) * (xv - xu) / (yv - yu)
            if cut > x:
                number += 1 if yv > yu else -1
    return number


def some_number(chance, figures):
    return chance.randrange(-(10 ** figures), 10 ** figures + 1)


def some_point(chance, figures=1):
    bottom = chance.choice([1, 1, 1, 2, 3, chance.randrange(1, 10 ** figures + 1)])
    return point_by(some_number(chance, figures), some_number(chance, figures), bottom)


def chance_of(seed):
    return random.Random(seed)
