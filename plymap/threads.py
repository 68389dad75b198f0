"""Threads: the cells that sides meet, in the row in which they are met."""

from plymap.cells import Track, cell_of, check_size, first_met, hot_cells


# All cells that a side meets lie in the rows between those of its ends; few cells do, and the rest need no reckoning.
def cells_about(p, q, cells, size):
    here = cell_of(p, size)
    there = cell_of(q, size)
    left = min(here[0], there[0])
    right = max(here[0], there[0])
    low = min(here[1], there[1])
    high = max(here[1], there[1])
    return [cell for cell in cells if left <= cell[0] <= right and low <= cell[1] <= high]


# No two cells have a point in common, so no two are first met at one place.
def thread_of(p, q, cells, size):
    check_size(size)
    track = Track(p, q, size)
    firsts = {}
    for cell in cells_about(p, q, cells, size):
        first = first_met(track, cell)
        if first is not None:
            firsts[cell] = first
    return sorted(firsts, key=lambda cell: firsts[cell])


def threads_of(plan, size):
    hot = hot_cells(plan, size)
    return [thread_of(a, b, hot, size) for a, b, passes in plan[1]]
