"""Things put in a row by a rule that tells of two of them which one goes first."""


def merged(one, other, goes_first):
    row = []
    at = 0
    for thing in other:
        while at < len(one) and goes_first(one[at], thing):
            row.append(one[at])
            at = at + 1
        row.append(thing)
    row.extend(one[at:])
    return row


# The rules here are no orders of tuples, which sorted would ask for, so rows are merged two by two.
def ordered(things, goes_first):
    rows = [[thing] for thing in things]
    while len(rows) > 1:
        halves = [merged(one, other, goes_first) for one, other in zip(rows[0::2], rows[1::2])]
        if len(rows) % 2 == 1:
            halves.append(rows[-1])
        rows = halves
    return rows[0] if rows else []
