"""The fewest crossings between two points of ground."""

from plymap.beside import beside_of
from plymap.net import twin_of
from plymap.steps import halves_to, heights_from, steps_from
from plymap.ways import between, face_of


# A piece is crossed straight over its middle, from the point beside the one half to that beside the other.
def ways_over(faces, halves, p, q):
    net = faces.net()
    begins = [p] + [beside_of(net, twin_of(half)) for half in halves]
    ends = [beside_of(net, half) for half in halves] + [q]
    return [between(faces, one, other)[1] for one, other in zip(begins, ends)]


def fewest(atlas, p, q):
    faces = atlas.faces()
    here = face_of(faces, p)
    there = face_of(faces, q)
    steps = steps_from(faces, here)
    halves = halves_to(faces, steps, there)
    pieces = faces.net().plan()[1]
    crossed = [pieces[half // 2][:2] for half in halves]
    heights = dict([(atlas.number_of(f), height) for f, height in heights_from(faces, steps).items()])
    return (len(halves), ways_over(faces, halves, p, q), crossed, heights)
