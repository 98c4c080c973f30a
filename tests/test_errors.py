"""The refusals: words, values, classes and families."""

import unittest

from nearcall import errors

HALL_ERRORS = {
    "BadWalls": (), "BadBar": ("at",), "BadSide": (), "Fixed": ("side",), "Alike": ("one", "other"),
    "BadRoom": (), "BadPart": (), "Empty": ("wall",), "BadTurn": (), "BadTable": ("at",), "OtherHall": (),
    "BadText": ("at",), "BadTree": (), "Ring": ("name",), "TooMany": ("most",), "BadOrder": ("at",),
    "BadCount": (), "NoStory": (), "BadName": (), "Taken": ("name",), "Full": ("most",), "InWay": ("name",),
    "Hangs": ("at",), "BadDeed": (), "BadPage": ("at",),
}
MISSING = {"NoRow": ("name",), "NoWalker": ("name",), "NoBar": (), "NoWall": (), "NoStep": ("at",)}
SAMPLES = {"at": 3, "side": "a", "one": "b", "other": "C", "wall": "w", "name": "ann", "most": 10 ** 60}


class Refusals(unittest.TestCase):
    def check_family(self, base, listed):
        for name, values in listed.items():
            with self.subTest(name):
                kind = getattr(errors, name)
                self.assertEqual(kind.__bases__, (base,))
                refusal = kind(*[SAMPLES[value] for value in values])
                self.assertEqual(refusal.word, name.lower())
                for value in values:
                    self.assertEqual(getattr(refusal, value), SAMPLES[value])
                told = {key for key in vars(refusal)}
                self.assertEqual(told, {"word", *values})
                with self.assertRaises(base):
                    raise refusal

    def check_counts(self, listed):
        for name, values in listed.items():
            with self.subTest(name):
                kind = getattr(errors, name)
                with self.assertRaises(TypeError):
                    kind(*[1] * (len(values) + 1))
                if values:
                    with self.assertRaises(TypeError):
                        kind(*[1] * (len(values) - 1))

    def test_hall_errors(self):
        self.check_family(errors.HallError, HALL_ERRORS)

    def test_missing(self):
        self.check_family(errors.Missing, MISSING)

    def test_made_by_their_values_alone(self):
        self.check_counts(HALL_ERRORS)
        self.check_counts(MISSING)
        self.check_counts({"NothingLeft": ()})

    def test_families(self):
        self.assertEqual(errors.HallError.__bases__, (ValueError,))
        self.assertEqual(errors.Missing.__bases__, (LookupError,))
        self.assertEqual(errors.NothingLeft.__bases__, (IndexError,))

    def test_families_are_made_with_their_word(self):
        self.assertEqual(errors.HallError("so").word, "so")
        self.assertEqual(errors.Missing("gone").word, "gone")

    def test_nothing_left(self):
        refusal = errors.NothingLeft()
        self.assertEqual(refusal.word, "nothingleft")
        self.assertNotIsInstance(refusal, errors.Missing)
        self.assertNotIsInstance(refusal, errors.HallError)

    def test_families_are_apart(self):
        self.assertFalse(issubclass(errors.Missing, ValueError))
        self.assertFalse(issubclass(errors.HallError, LookupError))

    def test_two_values_keep_their_places(self):
        refusal = errors.Alike("x", "Y")
        self.assertEqual((refusal.one, refusal.other), ("x", "Y"))

    def test_values_of_one_object_are_its_own(self):
        first, second = errors.BadBar(0), errors.BadBar(7)
        self.assertEqual((first.at, second.at), (0, 7))

    def test_every_class_is_listed(self):
        listed = {"HallError", "Missing", "NothingLeft", *HALL_ERRORS, *MISSING}
        here = {name for name, kind in vars(errors).items() if isinstance(kind, type)}
        self.assertEqual(here, listed)


if __name__ == "__main__":
    unittest.main()
