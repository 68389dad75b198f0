"""Plans: of layers, laid over one another, chosen by places; the rounds under a point; what is a plan."""

from plymap.layers import goes_under, sides_of
from plymap.made import added, made_of, onward_of, turned
from plymap.meets import meet
from plymap.points import is_ahead, is_point
from plymap.ratios import is_whole
from plymap.spots import near_pairs


def plan_of(layers):
    many = len(layers)
    strokes = []
    for number, rings in enumerate(layers):
        passes = tuple([1 if place == number else 0 for place in range(many)])
        strokes.extend([(p, q, passes) for p, q in sides_of(rings)])
    return made_of(many, strokes)


def rounds_under(plan, p):
    rounds = (0,) * plan[0]
    for a, b, passes in plan[1]:
        if goes_under(a, b, p) == 1:
            rounds = added(rounds, passes)
    return rounds


def laid_over(one, other):
    ahead = (0,) * one[0]
    behind = (0,) * other[0]
    strokes = [(a, b, passes + behind) for a, b, passes in one[1]]
    strokes.extend([(a, b, ahead + passes) for a, b, passes in other[1]])
    return made_of(one[0] + other[0], strokes)


def chosen_of(plan, places):
    strokes = [(a, b, tuple([passes[place] for place in places])) for a, b, passes in plan[1]]
    return made_of(len(places), strokes)


def are_passes(many, thing):
    if not isinstance(thing, tuple) or len(thing) != many:
        return False
    return all([is_whole(number) for number in thing]) and any([number != 0 for number in thing])


def is_piece(many, thing):
    if not isinstance(thing, tuple) or len(thing) != 3:
        return False
    if not is_point(thing[0]) or not is_point(thing[1]):
        return False
    return is_ahead(thing[0], thing[1]) and are_passes(many, thing[2])


def are_closed(pieces):
    sums = {}
    for a, b, passes in pieces:
        sums[a] = added(sums[a], passes) if a in sums else passes
        sums[b] = added(sums[b], turned(passes)) if b in sums else turned(passes)
    return not any([any([number != 0 for number in left]) for left in sums.values()])


def are_in_row(pieces):
    for one, other in zip(pieces, pieces[1:]):
        if one[0] == other[0] and not is_ahead(one[1], other[1]):
            return False
        if one[0] != other[0] and not is_ahead(one[0], other[0]):
            return False
    return True


def share_ends_alone(pieces):
    for one, other in near_pairs(pieces):
        here = pieces[one][:2]
        there = pieces[other][:2]
        for p in meet(here[0], here[1], there[0], there[1]):
            if p not in here or p not in there:
                return False
    return True


def are_pieces(many, pieces):
    if not all([is_piece(many, piece) for piece in pieces]):
        return False
    if not are_in_row(pieces) or not are_closed(pieces):
        return False
    return len(onward_of([piece[:2] for piece in pieces])) == 0 and share_ends_alone(pieces)


def is_plan(thing):
    if not isinstance(thing, tuple) or len(thing) != 2:
        return False
    if not is_whole(thing[0]) or thing[0] < 0 or not isinstance(thing[1], list):
        return False
    return are_pieces(thing[0], thing[1])
