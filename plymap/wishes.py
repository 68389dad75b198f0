"""Wishes: what may be asked of how often layers go round."""

from plymap.errors import BadWish
from plymap.names import is_name
from plymap.ratios import is_whole

DEEPEST = 6
# What stands behind the first word of each kind of wish.
SHAPES = {
    "in": ("name",),
    "round": ("name", "number"),
    "least": ("number",),
    "no": ("wish",),
    "both": ("wish", "wish"),
    "any": ("wish", "wish"),
}


# The kinds of the parts behind a word, or None where no wish begins with it.
def shape_of(word):
    return SHAPES.get(word)


def is_part(kind, thing, depth):
    if kind == "name":
        return is_name(thing)
    if kind == "number":
        return is_whole(thing)
    return is_wish_within(thing, depth)


def is_wish_within(thing, depth):
    if depth == 0 or not isinstance(thing, tuple) or len(thing) == 0 or not isinstance(thing[0], str):
        return False
    shape = shape_of(thing[0])
    if shape is None or len(thing) != len(shape) + 1:
        return False
    return all([is_part(kind, part, depth - 1) for kind, part in zip(shape, thing[1:])])


def is_wish(thing):
    return is_wish_within(thing, DEEPEST)


def check_wish(thing):
    if not is_wish(thing):
        raise BadWish()


def is_met(wish, rounds):
    word = wish[0]
    if word == "in":
        return rounds.get(wish[1], 0) != 0
    if word == "round":
        return rounds.get(wish[1], 0) == wish[2]
    if word == "least":
        return len([number for number in rounds.values() if number != 0]) >= wish[1]
    if word == "no":
        return not is_met(wish[1], rounds)
    if word == "both":
        return is_met(wish[1], rounds) and is_met(wish[2], rounds)
    return is_met(wish[1], rounds) or is_met(wish[2], rounds)


def holds(wish, rounds):
    check_wish(wish)
    return is_met(wish, rounds)
