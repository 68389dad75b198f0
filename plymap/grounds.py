"""Where a wish holds: its faces, its area and its ground."""

from plymap.errors import Endless
from plymap.made import made_of
from plymap.ratios import total_of
from plymap.wishes import check_wish, is_met


def faces_in(atlas, wish):
    check_wish(wish)
    return [number for number in atlas.numbers() if is_met(wish, atlas.rounds_at(number))]


def bounded_faces_in(atlas, wish):
    numbers = faces_in(atlas, wish)
    if 0 in numbers:
        raise Endless()
    return numbers


def area_in(atlas, wish):
    return total_of([atlas.area_at(number) for number in bounded_faces_in(atlas, wish)])


# Along a piece with the wish's faces at both sides the ground goes there and back, so it is left out.
def ground_of(atlas, wish):
    within = dict([(number, True) for number in bounded_faces_in(atlas, wish)])
    strokes = []
    for number in within:
        strokes.extend([(p, q, (1,)) for p, q, other, passes in atlas.sides_at(number) if other not in within])
    return made_of(1, strokes)
