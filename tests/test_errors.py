import unittest

from twoforone import errors

BARE = ("NoKind", "NoHeap", "NoPlace", "NoNumber", "NoTally", "NotTree", "NotJoined", "NoWeights", "NoRow")
FIELDS = {"NoWeb": ("at",), "NoSteps": ("at",), "NoText": ("row",), "TooGreat": ("many", "most")}


class Errors(unittest.TestCase):
    def test_any_refusal_stands_straight_under_value_error(self):
        self.assertEqual(errors.StoneError.__bases__, (ValueError,))

    def test_each_class_stands_straight_under_stone_error(self):
        for name in BARE + tuple(FIELDS):
            with self.subTest(name=name):
                self.assertEqual(getattr(errors, name).__bases__, (errors.StoneError,))

    def test_classes_without_fields_are_made_of_nothing(self):
        for name in BARE + ("StoneError",):
            with self.subTest(name=name):
                error = getattr(errors, name)()
                self.assertIsInstance(error, errors.StoneError)
                self.assertEqual(vars(error), {})

    def test_fields_are_made_in_their_order(self):
        for name, fields in FIELDS.items():
            for values in ((-1, 7), (0, 12), (13, 0)):
                with self.subTest(name=name, values=values):
                    handed = values[:len(fields)]
                    error = getattr(errors, name)(*handed)
                    self.assertEqual(tuple(getattr(error, field) for field in fields), handed)

    def test_fields_are_wanted(self):
        for name in FIELDS:
            with self.subTest(name=name), self.assertRaises(TypeError):
                getattr(errors, name)()

    def test_fields_of_two_objects_are_their_own(self):
        one = errors.TooGreat(13, 12)
        other = errors.TooGreat(7, 6)
        self.assertEqual((one.many, one.most, other.many, other.most), (13, 12, 7, 6))

    def test_refusals_are_taken_as_their_own_class(self):
        for name in BARE:
            for other in BARE + tuple(FIELDS):
                if name != other:
                    self.assertNotIsInstance(getattr(errors, name)(), getattr(errors, other))


if __name__ == "__main__":
    unittest.main()
