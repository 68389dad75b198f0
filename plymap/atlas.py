"""The atlas: layers kept by names, and faces whose numbers stay."""

from plymap.errors import NoFace, NoLayer, NoName, Taken, TooMany
from plymap.names import is_name, told_by_names
from plymap.net import twin_of
from plymap.own import own_point
from plymap.places import place_of
from plymap.rings import halves_of
from plymap.sheets import Sheet, sides_by_plan, sides_by_rings
from plymap.steps import passes_along

MOST_LAYERS = 8
MOST_SIDES = 48


def check_room(layers):
    if len(layers) > MOST_LAYERS:
        raise TooMany(MOST_LAYERS)
    if sum([len(sides) for sides in layers.values()]) > MOST_SIDES:
        raise TooMany(MOST_SIDES)


# The numbers of faces by their forms; known are those ahead, and last is the last number that was ever given.
def tags_of(forms, known, last):
    tags = [0]
    for form in forms[1:]:
        if form not in known:
            last = last + 1
        tags.append(known.get(form, last))
    return tags


# Seats tell from the number of each face to its place in the row of faces, tags the other way about.
class Atlas:
    def __init__(self):
        self.layers = {}
        self.sheet = Sheet({})
        self.tags = [0]
        self.seats = {0: 0}
        self.last = 0

    def put(self, name, rings):
        self.check_new(name)
        return self.take_in(name, sides_by_rings(rings))

    def lay(self, name, plan):
        self.check_new(name)
        return self.take_in(name, sides_by_plan(plan))

    def swap(self, name, rings):
        self.check_known(name)
        return self.take_in(name, sides_by_rings(rings))

    def out(self, name):
        self.check_known(name)
        layers = dict(self.layers)
        layers.pop(name)
        return self.become(layers)

    def check_new(self, name):
        if not is_name(name):
            raise NoName()
        if name in self.layers:
            raise Taken(name)

    def check_known(self, name):
        if not is_name(name) or name not in self.layers:
            raise NoLayer(name)

    def take_in(self, name, sides):
        layers = dict(self.layers)
        layers[name] = sides
        return self.become(layers)

    # Nothing is kept until nothing more can be refused.
    def become(self, layers):
        check_room(layers)
        sheet = Sheet(layers)
        known = dict(zip(self.sheet.forms[1:], self.tags[1:]))
        tags = tags_of(sheet.forms, known, self.last)
        seats = dict([(number, f) for f, number in enumerate(tags)])
        told = self.told_of(sheet, seats)
        self.layers = layers
        self.sheet = sheet
        self.tags = tags
        self.seats = seats
        self.last = max(self.last, max(tags))
        return told

    def told_of(self, sheet, seats):
        gone = [number for number in sorted(self.seats) if number not in seats]
        come = [number for number in sorted(seats) if number not in self.seats]
        kept = [number for number in sorted(seats) if number in self.seats]
        marked = [n for n in kept if sheet.rounds[seats[n]] != self.sheet.rounds[self.seats[n]]]
        return (gone, come, marked)

    def names(self):
        return list(self.sheet.titles)

    def numbers(self):
        return sorted(self.seats)

    # The faces of the plan, and their numbers in the atlas.
    def faces(self):
        return self.sheet.base

    def number_of(self, f):
        return self.tags[f]

    def seat_of(self, number):
        if number not in self.seats:
            raise NoFace(number)
        return self.seats[number]

    def rows_at(self, number):
        return [list(row) for row in self.sheet.forms[self.seat_of(number)]]

    def sides_at(self, number):
        faces = self.faces()
        net = faces.net()
        pieces = net.plan()[1]
        sides = []
        for half in halves_of(faces.rings_at(self.seat_of(number))):
            other = self.number_of(faces.face_at(twin_of(half)))
            passes = told_by_names(self.sheet.titles, passes_along(pieces, half))
            sides.append((net.start(half), net.end(half), other, passes))
        return sides

    def rounds_at(self, number):
        return dict(self.sheet.rounds[self.seat_of(number)])

    def paper(self, number):
        return (own_point(self.faces(), self.seat_of(number)), self.rounds_at(number))

    def area_at(self, number):
        return self.faces().area_at(self.seat_of(number))

    def place_at(self, p):
        place = place_of(self.faces(), p)
        if place[0] == "corner":
            return ("corner", p)
        if place[0] == "piece":
            return ("piece", self.plan()[1][place[1]][:2])
        return ("face", self.number_of(place[1]))

    def plan(self):
        return self.faces().net().plan()
