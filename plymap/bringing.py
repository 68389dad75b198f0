"""Plans brought to the cells of a grid."""

from plymap.cells import cell_middle
from plymap.made import add_bit, made_of
from plymap.threads import threads_of


# Many pieces may come to lie between the same two middles: added up first, they make fewer strokes.
def strokes_between_middles(plan, size):
    sums = {}
    for piece, thread in zip(plan[1], threads_of(plan, size)):
        middles = [cell_middle(cell, size) for cell in thread]
        for u, v in zip(middles, middles[1:]):
            add_bit(sums, u, v, piece[2])
    return [(ends[0], ends[1], passes) for ends, passes in sums.items()]


def brought_to(plan, size):
    return made_of(plan[0], strokes_between_middles(plan, size))
