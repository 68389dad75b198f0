"""Steps from face to face, each over a piece."""

from plymap.made import added, turned
from plymap.net import twin_of
from plymap.rings import halves_of


# From each face to the half over which one comes to it from the first one by fewest steps (to the first one: None).
# The half lies in the face that is one step nearer, its twin in this one; nearer faces stand earlier in the dict.
def steps_from(faces, first):
    steps = {first: None}
    row = [first]
    at = 0
    while at < len(row):
        halves = halves_of(faces.rings_at(row[at]))
        for half in halves:
            face = faces.face_at(twin_of(half))
            if face not in steps:
                steps[face] = half
                row.append(face)
        at = at + 1
    return steps


def heights_from(faces, steps):
    heights = {}
    for face, half in steps.items():
        heights[face] = 0 if half is None else heights[faces.face_at(half)] + 1
    return heights


# The halves over which one goes from the first face to the last one.
def halves_to(faces, steps, last):
    halves = []
    face = last
    while steps[face] is not None:
        halves.append(steps[face])
        face = faces.face_at(steps[face])
    return list(reversed(halves))


# How often each layer goes along a half.
def passes_along(pieces, half):
    passes = pieces[half // 2][2]
    return passes if half % 2 == 0 else turned(passes)


# The rounds of all faces, in their row. No layer goes round the outermost face, and to the right of a half it goes
# round its passes less often than to the left: to reckon from face to face is less work than under each own point.
def rounds_of_all(faces):
    plan = faces.net().plan()
    rounds = {}
    for face, half in steps_from(faces, 0).items():
        if half is None:
            rounds[face] = (0,) * plan[0]
        else:
            rounds[face] = added(rounds[faces.face_at(half)], passes_along(plan[1], twin_of(half)))
    return [rounds[face] for face in range(faces.many())]
