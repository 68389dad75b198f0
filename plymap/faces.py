"""The faces of a net: their rings, the face at the left of each half, areas."""

from plymap.below import seen_below
from plymap.errors import Endless, NoFace
from plymap.net import Net
from plymap.ratios import half_of, total_of
from plymap.rings import rings_of, row_of
from plymap.turns import round_sum


def face_below(net, lefts, p):
    half = seen_below(net, p)
    return 0 if half is None else lefts[half]


# The rings of each face, and the face of each half. What is seen below the least corner of a coast is of a ring
# with a corner ahead of that one, so it stands earlier in the row, and its face is known by then.
def parted(net):
    groups = [[]]
    lefts = {}
    for ring in rings_of(net):
        row = row_of(net, ring)
        if round_sum(row)[0] > 0:
            face = len(groups)
            groups.append([])
        else:
            face = face_below(net, lefts, row[0])
        groups[face].append(ring)
        lefts.update([(half, face) for half in ring])
    return (groups, lefts)


class Faces:
    def __init__(self, net):
        self.base = Net(net.plan())
        found = parted(self.base)
        self.groups = found[0]
        self.lefts = found[1]

    def net(self):
        return self.base

    def many(self):
        return len(self.groups)

    def rings_at(self, f):
        if f < 0 or f >= len(self.groups):
            raise NoFace(f)
        return [list(ring) for ring in self.groups[f]]

    def face_at(self, h):
        return self.lefts[h]

    def area_at(self, f):
        rings = self.rings_at(f)
        if f == 0:
            raise Endless()
        return half_of(total_of([round_sum(row_of(self.base, ring)) for ring in rings]))
