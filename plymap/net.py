"""Nets: the corners of a plan, the two halves of each piece, and which half comes behind which."""

from plymap.orders import ordered
from plymap.points import in_order
from plymap.turns import turn


# The halves at p of tuples (half, end) that lie within half a round, as who turns to the left meets them.
def fan_of(p, halves):
    row = ordered(halves, lambda one, other: turn(p, one[1], other[1]) == 1)
    return [half for half, end in row]


# From each corner to its halves in their row. Even halves go to the right or straight up, odd ones to the left or
# straight down: so the even ones are met first, and each of the two kinds lies within half a round.
def fans_of(pieces):
    ahead = {}
    back = {}
    for number, piece in enumerate(pieces):
        ahead.setdefault(piece[0], []).append((2 * number, piece[1]))
        back.setdefault(piece[1], []).append((2 * number + 1, piece[0]))
    fans = {}
    for kind in (ahead, back):
        for p, halves in kind.items():
            fans.setdefault(p, []).extend(fan_of(p, halves))
    return fans


def twin_of(h):
    return h ^ 1


def behind_of(fans):
    behind = {}
    for row in fans.values():
        for place, half in enumerate(row):
            behind[twin_of(half)] = row[place - 1]
    return behind


class Net:
    def __init__(self, plan):
        self.layers = plan[0]
        self.pieces = list(plan[1])
        self.fans = fans_of(self.pieces)
        self.behind = behind_of(self.fans)
        self.spots = in_order(list(self.fans))

    def plan(self):
        return (self.layers, list(self.pieces))

    def corners(self):
        return list(self.spots)

    def many(self):
        return 2 * len(self.pieces)

    def start(self, h):
        return self.pieces[h // 2][h % 2]

    def end(self, h):
        return self.pieces[h // 2][1 - h % 2]

    def halves_at(self, p):
        return list(self.fans.get(p, []))

    def after(self, h):
        return self.behind[h]
