"""Point 2: the refusals' classes."""

import copy
import pickle
import unittest

from carrytower import errors

PLAIN = (
    "NoRounds", "NoElement", "NoLower", "NoUpper", "NoHead", "NotLike", "NoCount", "NoPair", "NoKind", "NoLine",
    "NothingDone",
)
TELLING = {
    "NoText": ("at",), "NoCarry": ("x", "y"), "NoTower": ("three",), "Uneven": ("two",), "NoRelabeling": ("x",),
    "TooMany": ("many",), "NoMap": ("head",), "NoName": ("name",),
}
TOLD = (0, 7, -3, 10 ** 59, "", "abc", "a {} b\\n", (), (0,), (1, 2), ((0, 1), (2, 3)), ("a", (1, ("b",))))


class Refusals(unittest.TestCase):
    def stands_alone(self, made, name):
        self.assertIsInstance(made, errors.CarryError)
        self.assertIsInstance(made, ValueError)
        for other in (*PLAIN, *TELLING):
            self.assertEqual(isinstance(made, getattr(errors, other)), other == name, (name, other))

    def test_there_are_nineteen(self):
        self.assertEqual(len({*PLAIN, *TELLING}), 19)
        self.assertTrue(issubclass(errors.CarryError, ValueError))

    def test_made_of_nothing(self):
        for name in PLAIN:
            self.stands_alone(getattr(errors, name)(), name)

    def test_made_of_what_they_tell(self):
        for name, fields in TELLING.items():
            for at, told in enumerate(TOLD):
                handed = [told, TOLD[at - 1]][:len(fields)]
                made = getattr(errors, name)(*handed)
                self.stands_alone(made, name)
                for field, thing in zip(fields, handed):
                    self.assertEqual(getattr(made, field), thing)
                    self.assertIs(type(getattr(made, field)), type(thing))

    def test_told_in_words_and_copied(self):
        for name, fields in TELLING.items():
            made = getattr(errors, name)(*[(1, 2), "b"][:len(fields)])
            self.assertIsInstance(str(made), str)
            for twin in (copy.copy(made), pickle.loads(pickle.dumps(made))):
                self.assertEqual([getattr(twin, f) for f in fields], [getattr(made, f) for f in fields])

    def test_raised_and_taken_by_the_base(self):
        for name in PLAIN:
            with self.assertRaises(errors.CarryError):
                raise getattr(errors, name)()
        for name, fields in TELLING.items():
            with self.assertRaises(errors.CarryError):
                raise getattr(errors, name)(*fields)


if __name__ == "__main__":
    unittest.main()
