"""The spots of strokes, and sides cut at points."""

from plymap.meets import meet
from plymap.points import in_order, is_ahead, ranks_of
from plymap.turns import lies_on


def spans_of(sides):
    ranks = ranks_of([p for p, q in sides] + [q for p, q in sides])
    return [(min(ranks[p], ranks[q]), max(ranks[p], ranks[q])) for p, q in sides]


def flipped(p):
    return (p[1], p[0], p[2])


# Two strokes share nothing where all points of the one are ahead of all points of the other, by x first or by y
# first. With the strokes in the row of their first points one looks on from each no farther than its last point.
def near_pairs(strokes):
    spans = spans_of([(p, q) for p, q, passes in strokes])
    heights = spans_of([(flipped(p), flipped(q)) for p, q, passes in strokes])
    row = sorted(range(len(strokes)), key=lambda number: spans[number][0])
    pairs = []
    for at, one in enumerate(row):
        place = at + 1
        while place < len(row) and spans[row[place]][0] <= spans[one][1]:
            other = row[place]
            if heights[other][0] <= heights[one][1] and heights[one][0] <= heights[other][1]:
                pairs.append((one, other))
            place = place + 1
    return pairs


# For each stroke its ends and what it shares with each other one. All spots on a stroke are among these: a spot
# is an end of some stroke or what two strokes share, and of strokes along one line they share an end of one.
def marks_of(strokes):
    marks = [[stroke[0], stroke[1]] for stroke in strokes]
    for one, other in near_pairs(strokes):
        shared = meet(strokes[one][0], strokes[one][1], strokes[other][0], strokes[other][1])
        marks[one].extend(shared)
        marks[other].extend(shared)
    return marks


def spots_of(strokes):
    spots = []
    for marks in marks_of(strokes):
        spots.extend(marks)
    return in_order(spots)


def cut_at(p, q, points):
    row = in_order([z for z in points if lies_on(z, p, q)])
    return row if is_ahead(p, q) else list(reversed(row))
