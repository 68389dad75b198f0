import unittest

from plymap import errors

BARE = ["NoNumber", "NoPoint", "BadPlan", "Endless", "NoName", "BadWish", "NoSize", "NoText", "NoRow"]
FIELDS = {
    "BadLayer": ["ring", "at"],
    "NoFace": ["number"],
    "NoGround": ["point"],
    "Taken": ["name"],
    "NoLayer": ["name"],
    "TooMany": ["most"],
}


class Errors(unittest.TestCase):
    def test_base_stands_straight_under_value_error(self):
        self.assertEqual(errors.PlyError.__bases__, (ValueError,))

    def test_each_stands_straight_under_the_base(self):
        for name in BARE + list(FIELDS):
            self.assertEqual(getattr(errors, name).__bases__, (errors.PlyError,), name)

    def test_none_stands_under_another(self):
        classes = [getattr(errors, name) for name in BARE + list(FIELDS)]
        self.assertEqual(len(set(classes)), 15)
        for one in classes:
            for other in classes:
                self.assertEqual(issubclass(one, other), one is other)

    def test_each_has_its_name(self):
        for name in BARE + list(FIELDS):
            self.assertEqual(getattr(errors, name).__name__, name)

    def test_bare_ones_are_made_with_nothing(self):
        for name in BARE:
            with self.assertRaises(errors.PlyError) as caught:
                raise getattr(errors, name)()
            self.assertIs(type(caught.exception), getattr(errors, name))

    def test_fields_are_the_very_things_in_their_row(self):
        for name, fields in FIELDS.items():
            for things in ([[1], [2]], [None, ()], [object(), {}], [7, "x"]):
                error = getattr(errors, name)(*things[:len(fields)])
                for field, thing in zip(fields, things):
                    self.assertIs(getattr(error, field), thing)

    def test_fields_of_two_errors_are_their_own(self):
        one, other = errors.BadLayer(1, 2), errors.BadLayer(3, 4)
        self.assertEqual([one.ring, one.at, other.ring, other.at], [1, 2, 3, 4])

    def test_each_has_words(self):
        for name in BARE:
            self.assertIsInstance(str(getattr(errors, name)()), str)
        for name, fields in FIELDS.items():
            self.assertIsInstance(str(getattr(errors, name)(*fields)), str)
