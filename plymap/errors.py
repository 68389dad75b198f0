"""The refusals, each a class of its own straight under PlyError."""


class PlyError(ValueError):
    pass


class NoNumber(PlyError):
    pass


class NoPoint(PlyError):
    pass


class BadLayer(PlyError):
    def __init__(self, ring, at):
        self.ring = ring
        self.at = at


class BadPlan(PlyError):
    pass


class NoFace(PlyError):
    def __init__(self, number):
        self.number = number


class Endless(PlyError):
    pass


class NoGround(PlyError):
    def __init__(self, point):
        self.point = point


class NoName(PlyError):
    pass


class Taken(PlyError):
    def __init__(self, name):
        self.name = name


class NoLayer(PlyError):
    def __init__(self, name):
        self.name = name


class TooMany(PlyError):
    def __init__(self, most):
        self.most = most


class BadWish(PlyError):
    pass


class NoSize(PlyError):
    pass


class NoText(PlyError):
    pass


class NoRow(PlyError):
    pass
