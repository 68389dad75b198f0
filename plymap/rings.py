"""The rings of a net, and its parts."""

from plymap.points import in_order


def ring_from(net, first):
    ring = [first]
    while net.after(ring[-1]) != first:
        ring.append(net.after(ring[-1]))
    return ring


# Halves are looked at by their starts, then by their ends, so each ring is first met at the half that leads it.
def rings_of(net):
    ranks = dict([(p, rank) for rank, p in enumerate(net.corners())])
    row = sorted(range(net.many()), key=lambda half: (ranks[net.start(half)], ranks[net.end(half)]))
    done = {}
    rings = []
    for first in row:
        if first not in done:
            ring = ring_from(net, first)
            done.update([(half, True) for half in ring])
            rings.append(ring)
    return rings


def row_of(net, ring):
    return [net.start(half) for half in ring]


def halves_of(rings):
    halves = []
    for ring in rings:
        halves.extend(ring)
    return halves


def reached_from(net, first):
    found = {first: True}
    left = [first]
    while left:
        p = left.pop()
        for half in net.halves_at(p):
            q = net.end(half)
            if q not in found:
                found[q] = True
                left.append(q)
    return found


def parts_of(net):
    done = {}
    parts = []
    for p in net.corners():
        if p not in done:
            found = reached_from(net, p)
            done.update(found)
            parts.append(in_order(list(found)))
    return parts
