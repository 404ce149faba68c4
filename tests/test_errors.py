import unittest

from aheadcells import errors
from tests.samples import P, odd_things

FIELDS = {
    "BadProgram": "part", "Stuck": "ring", "NoCell": "value", "TooMany": "most", "BadText": "line", "NoName": "name",
    "Full": "value",
}
WITHOUT = (
    "NoStep", "NoOrder", "NoChoices", "NoNumber", "NoDoing", "NoMaker", "NoValue", "NoFollowing", "NoTable",
    "NoCrowd", "NoKinds", "NoPrices", "NoShort", "NoTimes", "NoFraction", "NoLinks", "NoNumbers", "NoLink",
    "NothingDone", "NoLine", "NotRight", "NotYet", "NoCounts",
)


class Errors(unittest.TestCase):
    """Point 0.3 and the interface."""

    def test_bases(self):
        self.assertEqual(errors.CellError.__bases__, (ValueError,))
        for name in list(FIELDS) + list(WITHOUT):
            self.assertEqual(getattr(errors, name).__bases__, (errors.CellError,), name)

    def test_fields_are_what_was_passed(self):
        for name, field in FIELDS.items():
            for thing in odd_things():
                error = getattr(errors, name)(thing)
                self.assertIs(getattr(error, field), thing)
                self.assertEqual(list(vars(error)), [field])

    def test_made_with_just_the_fields(self):
        for name in WITHOUT:
            self.assertEqual(vars(getattr(errors, name)()), {})
            with self.assertRaises(TypeError):
                getattr(errors, name)(P)
        for name in FIELDS:
            with self.assertRaises(TypeError):
                getattr(errors, name)()
            with self.assertRaises(TypeError):
                getattr(errors, name)(1, 2)

    def test_raised_and_caught(self):
        with self.assertRaises(ValueError) as caught:
            raise errors.TooMany(1000)
        self.assertEqual(caught.exception.most, 1000)


if __name__ == "__main__":
    unittest.main()
