"""The desk: an atlas that is told rows of words and answers with texts."""

from plymap.atlas import Atlas
from plymap.bringing import brought_to
from plymap.crossings import fewest
from plymap.errors import NoRow
from plymap.faces import Faces
from plymap.grounds import area_in, ground_of
from plymap.net import Net
from plymap.words import read_fraction, read_point, read_rings, read_whole, read_wish, show_fraction, show_point

# The least and the most words of the rows that begin with each word; None where any more may stand.
SPANS = {
    "put": (3, None),
    "swap": (3, None),
    "lay": (3, None),
    "out": (2, 2),
    "names": (1, 1),
    "faces": (1, 1),
    "paper": (2, 2),
    "area": (2, None),
    "same": (4, None),
    "where": (2, 2),
    "cross": (3, 3),
    "bring": (2, 2),
}


# Just one word "|", with a word at least on each side of it.
def are_parted(words):
    return words.count("|") == 1 and words[0] != "|" and words[-1] != "|"


def is_row(words):
    if words[0] not in SPANS:
        return False
    span = SPANS[words[0]]
    if len(words) < span[0] or (span[1] is not None and len(words) > span[1]):
        return False
    return words[0] != "same" or are_parted(words[1:])


def words_of(row):
    if not isinstance(row, str):
        raise NoRow()
    words = row.split(" ")
    if not is_row(words):
        raise NoRow()
    return words


def show_numbers(word, numbers):
    return " ".join([word] + [str(number) for number in numbers])


def show_deed(told):
    return " ".join([show_numbers(word, numbers) for word, numbers in zip(("gone", "come", "marked"), told)])


def deed_by(atlas, words):
    name = words[1]
    text = " ".join(words[2:])
    if words[0] == "put":
        return atlas.put(name, read_rings(text))
    if words[0] == "swap":
        return atlas.swap(name, read_rings(text))
    if words[0] == "lay":
        return atlas.lay(name, ground_of(atlas, read_wish(text)))
    return atlas.out(name)


def show_paper(paper):
    words = [show_point(paper[0])]
    for name in sorted(paper[1]):
        words.extend([name, str(paper[1][name])])
    return " ".join(words)


# Both wishes are read before the ground of one is asked for, as what can't be read is refused first.
def show_same(atlas, words):
    at = words.index("|")
    one = read_wish(" ".join(words[:at]))
    other = read_wish(" ".join(words[at + 1:]))
    return "yes" if ground_of(atlas, one) == ground_of(atlas, other) else "no"


def show_place(place):
    return show_numbers("face", [place[1]]) if place[0] == "face" else place[0]


def show_cross(atlas, words):
    p = read_point(words[0])
    q = read_point(words[1])
    return str(fewest(atlas, p, q)[0])


def show_counts(plan):
    net = Net(plan)
    corners = show_numbers("corners", [len(net.corners())])
    pieces = show_numbers("pieces", [len(plan[1])])
    faces = show_numbers("faces", [Faces(net).many()])
    return " ".join([corners, pieces, faces])


def answer_of(atlas, word, words):
    if word == "names":
        return show_numbers("names", atlas.names())
    if word == "faces":
        return show_numbers("faces", atlas.numbers())
    if word == "paper":
        return show_paper(atlas.paper(read_whole(words[0])))
    if word == "area":
        return show_fraction(area_in(atlas, read_wish(" ".join(words))))
    if word == "same":
        return show_same(atlas, words)
    if word == "where":
        return show_place(atlas.place_at(read_point(words[0])))
    if word == "cross":
        return show_cross(atlas, words)
    return show_counts(brought_to(atlas.plan(), read_fraction(words[0])))


class Desk:
    def __init__(self):
        self.atlas = Atlas()

    def say(self, row):
        words = words_of(row)
        if words[0] in ("put", "swap", "lay", "out"):
            return show_deed(deed_by(self.atlas, words))
        return answer_of(self.atlas, words[0], words[1:])
