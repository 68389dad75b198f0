"""Texts of fractions, points, rings and wishes, shown and read."""

from plymap.errors import NoText
from plymap.names import is_name
from plymap.points import point_of, x_of, y_of
from plymap.ratios import is_fraction
from plymap.wishes import DEEPEST, check_wish, shape_of

FIGURES = "0123456789"
MOST_FIGURES = 60


def show_fraction(one):
    top = one[0]
    bottom = one[1]
    return f"{top}" if bottom == 1 else f"{top}/{bottom}"


def show_point(p):
    return ",".join([show_fraction(x_of(p)), show_fraction(y_of(p))])


def show_ring(ring):
    return " ".join([show_point(p) for p in ring])


def show_rings(rings):
    return " | ".join([show_ring(ring) for ring in rings])


def show_part(kind, part):
    return words_of_wish(part) if kind == "wish" else str(part)


def words_of_wish(wish):
    parts = [show_part(kind, part) for kind, part in zip(shape_of(wish[0]), wish[1:])]
    return " ".join([wish[0]] + parts)


def show_wish(wish):
    check_wish(wish)
    return words_of_wish(wish)


def check_text(text):
    if not isinstance(text, str):
        raise NoText()


def read_whole(text):
    check_text(text)
    figures = text[1:] if text.startswith("-") else text
    if len(figures) < 1 or len(figures) > MOST_FIGURES or not all([sign in FIGURES for sign in figures]):
        raise NoText()
    if figures.startswith("0") and text != "0":
        raise NoText()
    return int(text)


def read_fraction(text):
    check_text(text)
    parts = text.split("/")
    if len(parts) == 1:
        return (read_whole(text), 1)
    one = tuple([read_whole(part) for part in parts])
    if not is_fraction(one) or one[1] == 1:
        raise NoText()
    return one


def read_point(text):
    check_text(text)
    parts = text.split(",")
    if len(parts) != 2:
        raise NoText()
    return point_of(read_fraction(parts[0]), read_fraction(parts[1]))


def read_ring(text):
    return [read_point(word) for word in text.split(" ")]


def read_rings(text):
    check_text(text)
    return [read_ring(part) for part in text.split(" | ")]


def read_name(text):
    if not is_name(text):
        raise NoText()
    return text


# The part of a wish that begins with the first of the words, and the words behind it.
def part_from(kind, words, depth):
    if kind == "wish":
        return wish_from(words, depth)
    if len(words) == 0:
        raise NoText()
    part = read_name(words[0]) if kind == "name" else read_whole(words[0])
    return (part, words[1:])


def wish_from(words, depth):
    shape = shape_of(words[0]) if len(words) > 0 and depth > 0 else None
    if shape is None:
        raise NoText()
    parts = [words[0]]
    rest = words[1:]
    for kind in shape:
        found = part_from(kind, rest, depth - 1)
        parts.append(found[0])
        rest = found[1]
    return (tuple(parts), rest)


def read_wish(text):
    check_text(text)
    found = wish_from(text.split(" "), DEEPEST)
    if len(found[1]) > 0:
        raise NoText()
    return found[0]
