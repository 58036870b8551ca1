import unittest

from shiftroads import errors

PLAIN = (
    "InvalidGrammar InvalidSymbols InvalidRow InvalidTree InvalidNumber InvalidDraft InvalidText InvalidClaim "
    "InvalidLadder InvalidRegex InvalidMachine InvalidRules InvalidItems InvalidItem InvalidSpine InvalidJoining "
    "InvalidWord InvalidToken InvalidPrecedence InvalidDeed InvalidConflict UnlikeLeaves InvalidTable InvalidCosts "
    "InvalidSteps NoSentence Endless InvalidScheme InvalidWorths"
).split()
WITH_VALUES = {
    "TooMany": ("limit",),
    "BadGrammar": ("line", "sign"),
    "BadRegex": ("rule", "at"),
    "EmptyWord": ("rule",),
    "BadText": ("begin", "at"),
    "Open": ("state", "token"),
    "Unproductive": ("symbol",),
    "Useless": ("rules",),
    "UnknownNames": ("names",),
}


class Errors(unittest.TestCase):
    def test_base(self):
        self.assertEqual(errors.RoadError.__bases__, (ValueError,))

    def test_direct_subclasses(self):
        for name in PLAIN + list(WITH_VALUES):
            self.assertEqual(getattr(errors, name).__bases__, (errors.RoadError,), name)

    def test_no_others(self):
        told = {name for name in vars(errors) if not name.startswith("_")}
        self.assertEqual(told, set(PLAIN) | set(WITH_VALUES) | {"RoadError"})

    def test_plain_ones_can_be_raised(self):
        for name in PLAIN:
            with self.assertRaises(errors.RoadError):
                raise getattr(errors, name)("why")
            self.assertIsInstance(getattr(errors, name)(), ValueError)

    def test_attributes(self):
        for name, attributes in WITH_VALUES.items():
            for values in ((3, 5), ("x", None), ((1, 2), ("a", "b"))):
                values = values[:len(attributes)]
                error = getattr(errors, name)(*values)
                self.assertEqual(tuple(getattr(error, told) for told in attributes), values)
                self.assertEqual(vars(error), dict(zip(attributes, values)))
                with self.assertRaises(ValueError):
                    raise error

    def test_number_of_values(self):
        for name, attributes in WITH_VALUES.items():
            for count in (len(attributes) - 1, len(attributes) + 1):
                with self.assertRaises(TypeError):
                    getattr(errors, name)(*[0] * count)


if __name__ == "__main__":
    unittest.main()
