"""What the tests share: odd things to hand in, and the plane reckoned once more with Python's own fractions."""

import bisect
import copy
import random
from fractions import Fraction

from plymap.errors import PlyError
from plymap.plans import plan_of
from plymap.points import point_by, point_of


class Sore:
    """A thing that can't be compared, hashed, counted or asked for its truth."""

    __hash__ = None

    def __eq__(self, other):
        raise RuntimeError("compared")

    def __bool__(self):
        raise RuntimeError("asked for its truth")

    def __len__(self):
        raise RuntimeError("counted")


def odd_things():
    own = []
    own.append(own)
    return [
        None, True, False, 0, 1, -1, 10 ** 700, 0.5, float("nan"), float("inf"), 1j, "", "a", "1/2", "1,2",
        b"", b"ab", bytearray(b"abc"), [], [1], [1, 2], [1, 2, 3], [[]], [[], []], own, (), (1,), (None,),
        (None, None), (None, None, None), (1, 2, 3, 4), ((1, 2),), ((1, 2), (3, 4)), ((1, 1), 1), (1, (1,)),
        ((1, 2, 3),), ((1, 2, 3), 2, 3), (1, 2, (3,)), ("1", "2"), ("1", "2", "3"), (1, "2"), (1, 2, "3"),
        (0.0, 1.0), (1.0, 2), (1, 2.0), (0.0, 0.0, 1.0), (0, 0, 1.0), (0, 1j), {}, {1: 2}, {1, 2}, frozenset(),
        range(2), range(3), object(), object, int, len, Sore(), (Sore(), Sore()), (Sore(), 1, 1), (1, 1, Sore()),
        [Sore(), Sore(), Sore()], (1, Sore()), Fraction(1, 2), (Fraction(1), Fraction(2)), Ellipsis,
        NotImplemented, iter([1, 2]), ([1], 2), ([1], [2], 3), (0, [Sore()]), (1, [None]), (1, None), (0, ()),
    ]


def as_fraction(one):
    return Fraction(one[0], one[1])


def told(number):
    return (number.numerator, number.denominator)


def place(p):
    return (Fraction(p[0], p[2]), Fraction(p[1], p[2]))


def at(x, y):
    """The point at x, y: whole numbers, fractions, or texts of fractions."""
    return point_of(told(Fraction(x)), told(Fraction(y)))


def dots(text):
    """Points written as 0,0 1/2,3 .."""
    return [at(*word.split(",")) for word in text.split()]


def pieces_by(text):
    """Pieces written as 0,0 1,1 1 -2; ..: two ends and the passes."""
    pieces = []
    for part in text.split(";"):
        words = part.split()
        a, b = dots(" ".join(words[:2]))
        pieces.append((a, b, tuple([int(word) for word in words[2:]])))
    return pieces


def lean(p, q, r):
    (xp, yp), (xq, yq), (xr, yr) = place(p), place(q), place(r)
    number = (xq - xp) * (yr - yp) - (yq - yp) * (xr - xp)
    return (number > 0) - (number < 0)


def is_on(p, a, b):
    """Whether p is a + t (b - a), t from 0 to 1."""
    (xp, yp), (xa, ya), (xb, yb) = place(p), place(a), place(b)
    t = (xp - xa) / (xb - xa) if xa != xb else (yp - ya) / (yb - ya)
    return 0 <= t <= 1 and (xa + t * (xb - xa), ya + t * (yb - ya)) == (xp, yp)


def ring_sides(rings):
    return [(ring[k], ring[(k + 1) % len(ring)]) for ring in rings for k in range(len(ring))]


def winding(rings, p):
    """How often rings go round p, by a ray to the right: it knows nothing of what lies below p."""
    x, y = place(p)
    number = 0
    for u, v in ring_sides(rings):
        (xu, yu), (xv, yv) = place(u), place(v)
        if (yu <= y) != (yv <= y):
            cut = xu + (y - yu) * (xv - xu) / (yv - yu)
            if cut > x:
                number += 1 if yv > yu else -1
    return number


def some_number(chance, figures):
    return chance.randrange(-(10 ** figures), 10 ** figures + 1)


def some_point(chance, figures=1):
    bottom = chance.choice([1, 1, 1, 2, 3, chance.randrange(1, 10 ** figures + 1)])
    return point_by(some_number(chance, figures), some_number(chance, figures), bottom)


def chance_of(seed):
    return random.Random(seed)


def goes_under(u, v, p):
    """1, -1 or 0, by the words of the rule and by heights."""
    (xu, yu), (xv, yv), (x, y) = place(u), place(v), place(p)
    if xu == xv or not min(xu, xv) <= x < max(xu, xv):
        return 0
    if yu + (x - xu) * (yv - yu) / (xv - xu) >= y:
        return 0
    return 1 if xu < xv else -1


def rounds_by_rule(rings, p):
    return sum([goes_under(u, v, p) for u, v in ring_sides(rings)])


def rounds_of_strokes(many, strokes, p):
    rounds = [0] * many
    for u, v, passes in strokes:
        way = goes_under(u, v, p)
        if way:
            rounds = [number + way * passed for number, passed in zip(rounds, passes)]
    return tuple(rounds)


def shared_by(a, b, c, d):
    """What two sides share, by where along the first one the second one is met."""
    (xa, ya), (xb, yb), (xc, yc), (xd, yd) = place(a), place(b), place(c), place(d)
    ux, uy, vx, vy = xb - xa, yb - ya, xd - xc, yd - yc
    slant = ux * vy - uy * vx
    if slant != 0:
        t = ((xc - xa) * vy - (yc - ya) * vx) / slant
        s = ((xc - xa) * uy - (yc - ya) * ux) / slant
        return (at(xa + t * ux, ya + t * uy),) if 0 <= t <= 1 and 0 <= s <= 1 else ()
    if (xc - xa) * uy != (yc - ya) * ux:
        return ()
    low = max(min(place(a), place(b)), min(place(c), place(d)))
    high = min(max(place(a), place(b)), max(place(c), place(d)))
    if low > high:
        return ()
    return tuple([at(*low)] + ([at(*high)] if low < high else []))


def spots_by(strokes):
    found = {place(end) for stroke in strokes for end in stroke[:2]}
    for k, one in enumerate(strokes):
        for other in strokes[k + 1:]:
            found.update([place(p) for p in shared_by(one[0], one[1], other[0], other[1])])
    return [at(*spot) for spot in sorted(found)]


def plan_by(many, strokes):
    """The plan of strokes, made word by word: every stroke against every spot, one pair of pieces joined at a time."""
    spots = spots_by(strokes)
    pieces = {}
    for p, q, passes in strokes:
        row = [z for z in spots if is_on(z, p, q)]
        for u, v in zip(row, row[1:]):
            ahead = 1 if place(p) < place(q) else -1
            old = pieces.get((u, v), [0] * many)
            pieces[(u, v)] = [number + ahead * passed for number, passed in zip(old, passes)]
    pieces = {ends: passes for ends, passes in pieces.items() if any(passes)}
    while True:
        pair = straight_pair(pieces)
        if pair is None:
            break
        (one, other), (low, high) = pair
        passes = pieces.pop(one)
        pieces.pop(other)
        pieces[(low, high)] = passes
    row = sorted(pieces, key=lambda ends: (place(ends[0]), place(ends[1])))
    return (many, [(a, b, tuple(pieces[(a, b)])) for a, b in row])


def straight_pair(pieces):
    at_end = {}
    for ends in pieces:
        for end in ends:
            at_end.setdefault(end, []).append(ends)
    for z, met in at_end.items():
        if len(met) == 2:
            far = [ends[0] if ends[1] == z else ends[1] for ends in met]
            if far[0] != far[1] and is_on(z, far[0], far[1]):
                return met, sorted(far, key=place)
    return None


def faults_of(plan):
    """What of the words on plans does not hold of a tuple (many, pieces) of the right kinds."""
    many, pieces = plan
    faults = []
    for a, b, passes in pieces:
        if place(a) >= place(b) or len(passes) != many or not any(passes):
            faults.append(("piece", a, b, passes))
    if faults:
        return faults
    ends = [(place(a), place(b)) for a, b, passes in pieces]
    if ends != sorted(set(ends)):
        faults.append(("row",))
    for k, (a, b, passes) in enumerate(pieces):
        for c, d, others in pieces[k + 1:]:
            if place(c)[0] > place(b)[0]:
                break
            shared = shared_by(a, b, c, d)
            if len(shared) > 1 or (shared and (shared[0] not in (a, b) or shared[0] not in (c, d))):
                faults.append(("shared", a, b, c, d))
    for z in {end for piece in pieces for end in piece[:2]}:
        for layer in range(many):
            if sum([(a == z) * passes[layer] - (b == z) * passes[layer] for a, b, passes in pieces]) != 0:
                faults.append(("open", z))
    if straight_pair([piece[:2] for piece in pieces]) is not None:
        faults.append(("straight",))
    return faults


def between_all(numbers):
    """One number below all, each number, one between each and the next, one above all."""
    row = sorted(set(numbers))
    if not row:
        return [Fraction(0)]
    found = [row[0] - 1]
    for one, other in zip(row, row[1:] + [row[-1] + 2]):
        found.extend([one, (one + other) / 2])
    return found


def samples(sides, step=1):
    """Points of all sorts: in each part of the plane that sides part off, on sides, on and straight above corners."""
    found = []
    spots = spots_by(sides)
    for x in between_all([place(p)[0] for p in spots])[::step]:
        heights = [place(p)[1] for p in spots if place(p)[0] == x]
        for side in sides:
            (xu, yu), (xv, yv) = place(side[0]), place(side[1])
            if xu != xv and min(xu, xv) <= x <= max(xu, xv):
                heights.append(yu + (x - xu) * (yv - yu) / (xv - xu))
        found.extend([at(x, y) for y in between_all(heights)])
    return found


def grid_ring(chance, most=4, size=4, bottoms=(1, 1, 1, 2, 3)):
    """A ring on few places, so that sides overlap, touch and come back."""
    while True:
        ring = []
        for number in range(chance.randrange(3, most + 1)):
            bottom = chance.choice(bottoms)
            ring.append(point_by(chance.randrange(size * bottom), chance.randrange(size * bottom), bottom))
        if all([ring[k] != ring[k - 1] for k in range(len(ring))]):
            return ring


def star(middle, wide, tall, step, many=12):
    """A ring through corners of a round, always step corners on, so that its sides cross one another."""
    rim = [(4, 0), (3, 2), (2, 3), (0, 4), (-2, 3), (-3, 2), (-4, 0), (-3, -2), (-2, -3), (0, -4), (2, -3), (3, -2)]
    return [at(middle[0] + wide * rim[k * step % 12][0], middle[1] + tall * rim[k * step % 12][1])
            for k in range(many)]


FAR = 10 ** 12
FINE = 10 ** 6
SQUARE = dots("0,0 4,0 4,4 0,4")
FORMS = {
    "square": [SQUARE],
    "turned about": [SQUARE[::-1]],
    "twice round": [SQUARE + SQUARE],
    "bow": [dots("0,0 2,2 2,0 0,2")],
    "there and back": [dots("0,0 3,1 6,2")],
    "spike": [dots("0,0 4,0 4,4 7,7 4,4 0,4")],
    "spike within": [dots("0,0 4,0 4,4 2,2 4,4 0,4")],
    "hole": [SQUARE, dots("1,1 1,3 3,3 3,1")],
    "within": [SQUARE, dots("1,1 3,1 3,3 1,3")],
    "side by side": [SQUARE, dots("4,0 8,0 8,4 4,4")],
    "partly side by side": [SQUARE, dots("4,1 8,1 8,3 4,3")],
    "corner on a side": [SQUARE, dots("4,2 6,1 6,3")],
    "corner on a corner": [SQUARE, dots("4,4 6,4 6,6")],
    "own corner again": [dots("0,0 2,0 1,1 2,2 0,2 1,1")],
    "star": [star((0, 0), 1, 1, 5)],
    "many through one point": [dots("-2,-2 2,2 2,-2 -2,2"), dots("0,-3 0,3 3,0 -3,0")],
    "overlap on a slant": [dots("0,0 6,2 0,6"), dots("3,1 9,3 0,9")],
    "bounds": [[(-FAR, -FAR, 1), (FAR, -FAR, 1), (FAR, FAR, 1), (1, 1, FINE)],
               [(FAR, -FAR + 1, FINE - 1), (FAR - 1, FAR, FINE), (-FAR, 3, 7)]],
}
# Forms of several parts: within one another, beside, one seen below another, touching at corners; narrow ones.
PARTS = {
    "within and within": [SQUARE, dots("1,1 3,1 3,3 1,3"), dots("3/2,3/2 5/2,3/2 5/2,5/2 3/2,5/2")],
    "two beside": [dots("0,0 1,0 1,1 0,1"), dots("3,1 4,0 4,2")],
    "two within": [dots("0,0 9,0 9,9 0,9"), dots("2,2 4,2 3,3"), dots("5,6 7,5 7,7")],
    "three above one another within": [dots("0,0 9,0 9,9 0,9"), dots("3,1 6,1 5,2"), dots("3,3 6,3 5,4"),
                                       dots("4,6 6,6 5,8")],
    "three above one another": [dots("0,0 3,0 3,1"), dots("1,2 3,2 3,3"), dots("2,4 5,4 5,5")],
    "one above the corner of another": [dots("0,0 2,0 1,1"), dots("1,2 3,2 2,3"), dots("2,5 3,4 3,6")],
    "one above an upright side": [dots("0,0 2,0 2,2"), dots("2,3 4,3 4,4"), dots("-1,4 0,3 0,5")],
    "within and touching the rim": [dots("0,0 8,0 8,8 0,8"), dots("0,0 3,1 1,3"), dots("8,4 6,5 6,3")],
    "a chain of corners": [dots("0,0 2,1 1,2"), dots("2,1 4,0 4,2"), dots("4,2 6,4 3,4"), dots("1,2 3,4 1,5")],
    "a chain shut within": [dots("-2,-2 9,-2 9,9 -2,9"), dots("0,0 4,0 4,1 0,1"), dots("4,1 5,1 5,5 4,5"),
                            dots("4,5 4,6 0,6 0,5")],
    "comb": [dots("0,0 9,0 9,6 7,6 7,1 5,1 5,6 3,6 3,1 1,1 1,6 0,6")],
    "coil": [dots("0,0 10,0 10,10 0,10 0,2 8,2 8,8 2,8 2,4 6,4 6,6 5,6 5,5 3,5 3,7 7,7 7,3 1,3 1,9 9,9 9,1 0,1"),
             dots("2,1/4 3,1/4 3,1/2"), dots("2,5/4 3,5/4 3,3/2")],
    "sliver": [dots("0,0 1000,1 2000,0 1000,2"), dots("1000,3/2 1001,5/4 1002,3/2")],
    "uprights": [dots("0,0 1,0 1,1 0,1"), dots("1,1 2,1 2,2 1,2"), dots("2,0 3,0 3,1 2,1"), dots("0,3 0,9 1,6")],
    "fan": [dots("0,0 4,-4 4,-2"), dots("0,0 4,1 4,3"), dots("0,0 0,4 -1,4"), dots("0,0 -4,1 -4,-2")],
}


def some_plans(seed, many):
    """Plans of many forms: each form alone, forms over one another, rings by chance."""
    chance = chance_of(seed)
    forms = list(FORMS.values()) + list(PARTS.values())
    plans = [plan_of([]), plan_of([[], [], []])] + [plan_of([rings]) for rings in forms]
    plans.append(plan_of([PARTS["two within"], PARTS["comb"], PARTS["coil"]]))
    plans.append(plan_of([FORMS["hole"], PARTS["three above one another"], FORMS["star"]]))
    for number in range(many):
        plans.append(plan_of([[grid_ring(chance, 5, 5) for ring in range(chance.randrange(1, 3))]
                              for layer in range(chance.randrange(1, 4))]))
    return plans


def height(side, x):
    (xa, ya), (xb, yb) = side
    return ya + (x - xa) * (yb - ya) / (xb - xa)


class Ground:
    """The ground of a plan, parted into slabs at each x of a corner and joined again through the gaps between them.

    It knows nothing of halves, rings and turns: it tells by names of its own which points lie in one face."""

    def __init__(self, pieces):
        self.sides = [(place(a), place(b)) for a, b, passes in pieces]
        self.xs = sorted({end[0] for side in self.sides for end in side})
        self.slabs = []
        for mid in between_all(self.xs)[::2] if self.xs else [0]:
            here = [side for side in self.sides if side[0][0] < mid < side[1][0]]
            self.slabs.append(sorted(here, key=lambda side: height(side, mid)))
        self.above = {}
        for number, x in enumerate(self.xs):
            for y in self.gaps(x):
                one, other = self.root(self.node(number, x, y)), self.root(self.node(number + 1, x, y))
                if one != other:
                    self.above[one] = other

    def gaps(self, x):
        met = [side for side in self.sides if side[0][0] <= x <= side[1][0]]
        upright = [(side[0][1], side[1][1]) for side in met if side[0][0] == side[1][0]]
        heights = [height(side, x) for side in met if side[0][0] != side[1][0]]
        heights.extend([y for ends in upright for y in ends])
        return [y for y in between_all(heights)[::2] if not any([low < y < high for low, high in upright])]

    def node(self, slab, x, y):
        return (slab, len([side for side in self.slabs[slab] if height(side, x) < y]))

    def root(self, node):
        while node in self.above:
            node = self.above[node]
        return node

    def outer(self):
        return self.root((0, 0))

    def is_ground(self, p):
        return not any([is_on(p, at(*a), at(*b)) for a, b in self.sides])

    def face(self, p):
        """The face of a point of ground."""
        x, y = place(p)
        return self.root(self.node(bisect.bisect_right(self.xs, x), x, y))

    def left(self, half):
        """The face at the left of a half."""
        (xa, ya), (xb, yb) = side = self.sides[half // 2]
        if xa == xb:
            return self.root(self.node(self.xs.index(xa) + half % 2, xa, (ya + yb) / 2))
        slab = self.xs.index(xa) + 1
        return self.root((slab, self.slabs[slab].index(side) + 1 - half % 2))


def direction(p, q):
    """A key for halves from p to q: straight down comes last, ahead of it who turns to the left from there."""
    (xp, yp), (xq, yq) = place(p), place(q)
    if xp == xq:
        return (1 if yq > yp else 3, 0)
    return (0 if xq > xp else 2, (yq - yp) / (xq - xp))


def ends_by(plan):
    """The start and the end of each half."""
    return [ends for a, b, passes in plan[1] for ends in ((a, b), (b, a))]


def halves_by(plan, p):
    ends = ends_by(plan)
    return sorted([h for h in range(len(ends)) if ends[h][0] == p], key=lambda h: direction(*ends[h]))


def corners_by(plan):
    return [at(*spot) for spot in sorted({place(end) for piece in plan[1] for end in piece[:2]})]


def points_about(chance, plan, many):
    """Points near corners, level with them, straight above and below them, on pieces, and far away."""
    spots = [place(p) for p in corners_by(plan)] or [(Fraction(0), Fraction(0))]
    aside = [Fraction(number) for number in (0, 0, 0, 1, -1, 2, -2, 50, "1/2", "-1/2", "1/3", "-1/7", "1/1000")]
    found = []
    for number in range(many):
        x, y = chance.choice(spots)[0], chance.choice(spots)[1]
        found.append(at(x + chance.choice(aside), y + chance.choice(aside)))
    for a, b, passes in chance.sample(plan[1], min(3, len(plan[1]))):
        (xa, ya), (xb, yb) = place(a), place(b)
        found.append(at((xa + xb) / 2, (ya + yb) / 2))
        found.append(at((xa + xb) / 2 + chance.choice(aside), (ya + yb) / 2 + chance.choice(aside)))
    return found


def faults_between(plan, ground, p, q, told):
    """What of the words on what lies between two points of ground does not hold of the answer."""
    kind, row = told
    faults = []
    if kind != ("way" if ground.face(p) == ground.face(q) else "ring"):
        faults.append("kind")
    if kind == "way":
        if not row or row[0] != p or row[-1] != q:
            faults.append("ends")
        for u, v in zip(row, row[1:]):
            if u == v:
                faults.append(("alike", u))
            elif any([shared_by(u, v, a, b) for a, b, passes in plan[1]]):
                faults.append(("met", u, v))
        return faults
    pieces = {frozenset(piece[:2]) for piece in plan[1]}
    faults.extend([("no piece", u, v) for u, v in ring_sides([row]) if frozenset((u, v)) not in pieces])
    if rounds_by_rule([row], p) == rounds_by_rule([row], q) or winding([row], p) == winding([row], q):
        faults.append("rounds")
    return faults


def refusal(call, *things):
    """What a call is refused with: the name of the class and its fields; None where it is not refused."""
    try:
        call(*things)
    except PlyError as error:
        return (type(error).__name__,) + tuple(vars(error).values())
    return None


def box(left, low, right, high):
    """A ring once to the left round a box."""
    return [at(left, low), at(right, low), at(right, high), at(left, high)]


def half_sum(rings):
    """Half the round sum of rings, by the words of the rule."""
    total = Fraction(0)
    for p, q in ring_sides(rings):
        (xp, yp), (xq, yq) = place(p), place(q)
        total += xp * yq - xq * yp
    return total / 2


def all_told(atlas):
    """Whatever an atlas tells, as a copy that nothing changes."""
    numbers = atlas.numbers()
    return copy.deepcopy((atlas.names(), numbers, [atlas.rows_at(n) for n in numbers],
                          [atlas.sides_at(n) for n in numbers], [atlas.paper(n) for n in numbers],
                          [atlas.area_at(n) for n in numbers[1:]], atlas.plan()))


def faces_told(atlas):
    """The faces of an atlas but for their numbers: from the rows of each to its paper and its area."""
    found = {}
    for number in atlas.numbers():
        rows = tuple([tuple(row) for row in atlas.rows_at(number)])
        found[rows] = (atlas.paper(number), atlas.area_at(number) if number > 0 else None)
    return found


def some_wish(chance, names, depth):
    kind = chance.choice(["in", "round", "least"] + ["no", "both", "any"] * (2 if depth > 1 else 0))
    if kind == "in":
        return (kind, chance.choice(names))
    if kind == "round":
        return (kind, chance.choice(names), chance.choice([-2, -1, 0, 1, 1, 2]))
    if kind == "least":
        return (kind, chance.randrange(4))
    if kind == "no":
        return (kind, some_wish(chance, names, depth - 1))
    return (kind, some_wish(chance, names, depth - 1), some_wish(chance, names, depth - 1))


def wish_holds(wish, rounds):
    """By the words of the rule; rounds is a dict."""
    kind = wish[0]
    if kind == "in":
        return wish[1] in rounds and rounds[wish[1]] != 0
    if kind == "round":
        return (rounds[wish[1]] if wish[1] in rounds else 0) == wish[2]
    if kind == "least":
        return sum([1 for name in rounds if rounds[name] != 0]) >= wish[1]
    parts = [wish_holds(part, rounds) for part in wish[1:]]
    return {"no": not parts[0], "both": all(parts), "any": any(parts)}[kind]


def cell_by(p, size):
    """The cell of a point, by its bounds."""
    wide = as_fraction(size)
    return tuple([(number / wide + Fraction(1, 2)).__floor__() for number in place(p)])


def stations(p, q, cells, size):
    """Points of the side from p to q, in their row: its ends, where it meets the bounds of cells, and one between each
    two of these. Between two of them nothing changes."""
    (xp, yp), (xq, yq) = place(p), place(q)
    found = {Fraction(0), Fraction(1)}
    wide = as_fraction(size)
    for i, j in cells:
        for k, start, end in ((i, xp, xq), (j, yp, yq)):
            for bound in ((k - Fraction(1, 2)) * wide, (k + Fraction(1, 2)) * wide):
                if start != end and 0 < (bound - start) / (end - start) < 1:
                    found.add((bound - start) / (end - start))
    row = sorted(found)
    row = sorted(row + [(one + other) / 2 for one, other in zip(row, row[1:])])
    return [at(xp + t * (xq - xp), yp + t * (yq - yp)) for t in row]


def thread_by(p, q, cells, size):
    """The thread of a side, by the cells of its stations."""
    thread = []
    for z in stations(p, q, cells, size):
        cell = cell_by(z, size)
        if cell in cells and cell not in thread:
            thread.append(cell)
    return thread


def hot_by(plan, size):
    return sorted({cell_by(end, size) for piece in plan[1] for end in piece[:2]})


def middle_by(cell, size):
    wide = as_fraction(size)
    return at(cell[0] * wide, cell[1] * wide)


def is_near(plan, p, size):
    """Whether a piece has a point whose x and whose y both are at most half a size away from those of p."""
    (x, y), half = place(p), as_fraction(size) / 2
    for a, b, passes in plan[1]:
        low, high = Fraction(0), Fraction(1)
        for start, end, middle in zip(place(a), place(b), (x, y)):
            if start == end:
                low = low if abs(start - middle) <= half else Fraction(2)
            else:
                bounds = sorted([(middle - half - start) / (end - start), (middle + half - start) / (end - start)])
                low, high = max(low, bounds[0]), min(high, bounds[1])
        if low <= high:
            return True
    return False
