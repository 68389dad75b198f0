"""Sheets: the faces that layers with names make, each with its rows and its rounds."""

from plymap.errors import BadPlan
from plymap.faces import Faces
from plymap.layers import layer_of, sides_of
from plymap.made import made_of
from plymap.names import told_by_names
from plymap.net import Net
from plymap.plans import is_plan
from plymap.rings import row_of
from plymap.steps import rounds_of_all


# A layer with a name is kept as tuples (p, q, passed): its sides, and how often it passes along each.
def sides_by_rings(rings):
    return [(p, q, 1) for p, q in sides_of(layer_of(rings))]


def sides_by_plan(plan):
    if not is_plan(plan) or plan[0] != 1:
        raise BadPlan()
    return [(a, b, passes[0]) for a, b, passes in plan[1]]


def plan_by_names(layers):
    many = len(layers)
    strokes = []
    for number, name in enumerate(sorted(layers)):
        ahead = (0,) * number
        behind = (0,) * (many - number - 1)
        strokes.extend([(p, q, ahead + (passed,) + behind) for p, q, passed in layers[name]])
    return made_of(many, strokes)


# The rows of a face's rings, which tell it from each other face.
def form_of(faces, f):
    return tuple([tuple(row_of(faces.net(), ring)) for ring in faces.rings_at(f)])


class Sheet:
    def __init__(self, layers):
        self.titles = sorted(layers)
        self.base = Faces(Net(plan_by_names(layers)))
        self.forms = [form_of(self.base, f) for f in range(self.base.many())]
        self.rounds = [told_by_names(self.titles, rounds) for rounds in rounds_of_all(self.base)]
