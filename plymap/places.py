"""The place of a point: a corner, a piece or a face."""

from plymap.below import seen_below
from plymap.turns import lies_on


def place_of(faces, p):
    net = faces.net()
    corners = net.corners()
    if p in corners:
        return ("corner", corners.index(p))
    for number, piece in enumerate(net.plan()[1]):
        if lies_on(p, piece[0], piece[1]):
            return ("piece", number)
    half = seen_below(net, p)
    return ("face", 0 if half is None else faces.face_at(half))
