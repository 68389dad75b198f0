"""What lies between two points of ground: a way within their face, or a ring that parts them."""

from plymap.errors import NoGround
from plymap.layers import rounds_about
from plymap.meets import meet
from plymap.places import place_of
from plymap.points import in_order, is_left_of, point_by
from plymap.rings import halves_of, row_of
from plymap.strips import midst_of, point_in_door, swept


# The plane leant over: who stands at the height y goes y / slope to the right. Straight lines stay straight, and
# leant over by -slope all points come back.
def leaned(p, slope):
    return point_by(p[0] * slope + p[1], p[1] * slope, p[2] * slope)


def has_upright_pair(points):
    row = in_order(points)
    return any([not is_left_of(p, q) for p, q in zip(row, row[1:])])


# Each pair of points comes to stand upright by one slope alone, so one is found by which none does.
def slope_for(points):
    slope = 1
    while has_upright_pair([leaned(p, slope) for p in points]):
        slope = 2 * slope
    return slope


# From each strip that leads to the last one to the door that is the next step on the way there.
def doors_to(strips, last):
    doors = {last: None}
    row = [last]
    at = 0
    while at < len(row):
        strip = strips[row[at]]
        for number, z, step in strip.doors:
            if number not in doors:
                doors[number] = (row[at], z, step)
                row.append(number)
        at = at + 1
    return doors


# A strip bulges nowhere inwards, so from its midst one goes straight to each point in its ground and in its doors.
def points_through(strips, first, last):
    doors = doors_to(strips, last)
    points = [midst_of(strips[first])]
    number = first
    while number != last:
        door = doors[number]
        points.append(point_in_door(strips[number], door[1], door[2]))
        number = door[0]
        points.append(midst_of(strips[number]))
    return points


def way_round(sides, p, q):
    slope = slope_for([a for a, b in sides] + [p, q])
    there = [(leaned(a, slope), leaned(b, slope)) for a, b in sides]
    found = swept(there, [leaned(p, slope), leaned(q, slope)])
    points = points_through(found[0], found[1][0], found[1][1])
    row = [p] + [leaned(z, -slope) for z in points] + [q]
    return [p] + [z for y, z in zip(row, row[1:]) if y != z]


def way_of(sides, p, q):
    if p == q:
        return [p]
    if not any([len(meet(p, q, a, b)) > 0 for a, b in sides]):
        return [p, q]
    return way_round(sides, p, q)


# The rim of one of the two faces: where the other point lies within the one's rim, too, the one does not lie within
# the other's.
def row_between(faces, numbers, p, q):
    rims = [row_of(faces.net(), faces.rings_at(number)[0]) for number in numbers if number > 0]
    return [row for row in rims if rounds_about([row], p) != rounds_about([row], q)][0]


def face_of(faces, p):
    place = place_of(faces, p)
    if place[0] != "face":
        raise NoGround(p)
    return place[1]


def between(faces, p, q):
    here = face_of(faces, p)
    there = face_of(faces, q)
    if here != there:
        return ("ring", row_between(faces, [here, there], p, q))
    net = faces.net()
    sides = [(net.start(half), net.end(half)) for half in halves_of(faces.rings_at(here))]
    return ("way", way_of(sides, p, q))
