"""The plan of strokes."""

from plymap.points import is_ahead, ranks_of
from plymap.spots import cut_at, marks_of
from plymap.turns import lies_on


def added(one, other):
    return tuple([here + there for here, there in zip(one, other)])


def turned(passes):
    return tuple([-number for number in passes])


def add_bit(sums, u, v, passes):
    ends = (u, v) if is_ahead(u, v) else (v, u)
    along = passes if ends == (u, v) else turned(passes)
    sums[ends] = added(sums[ends], along) if ends in sums else along


# From the ends of each bit, in order, to its passes; bits whose passes come to nothing are left out.
def bits_of(strokes):
    sums = {}
    for stroke, marks in zip(strokes, marks_of(strokes)):
        row = cut_at(stroke[0], stroke[1], marks)
        for u, v in zip(row, row[1:]):
            add_bit(sums, u, v, stroke[2])
    return dict([(ends, passes) for ends, passes in sums.items() if any([number != 0 for number in passes])])


def others_at(bits):
    others = {}
    for a, b in bits:
        others.setdefault(a, []).append(b)
        others.setdefault(b, []).append(a)
    return others


# From each point at which just two bits make one straight piece to the later end of these two. A bit made longer
# goes on in its direction and has as many bits at its ends as ahead, so these points are the same all the time.
def onward_of(bits):
    onward = {}
    for z, others in others_at(bits).items():
        if len(others) == 2 and lies_on(z, others[0], others[1]):
            onward[z] = others[1] if is_ahead(others[0], others[1]) else others[0]
    return onward


def joined_of(bits):
    onward = onward_of(bits)
    pieces = []
    for a, b in bits:
        if a not in onward:
            end = b
            while end in onward:
                end = onward[end]
            pieces.append((a, end, bits[(a, b)]))
    return pieces


def made_of(many, strokes):
    pieces = joined_of(bits_of(strokes))
    ranks = ranks_of([piece[0] for piece in pieces] + [piece[1] for piece in pieces])
    return (many, sorted(pieces, key=lambda piece: (ranks[piece[0]], ranks[piece[1]])))
