import itertools
import unittest

from everychange import errors
from everychange.errors import BadLine, CanNot, NoPlace, NothingDone, TooMuch, Unfit

LOOKUPS = (NoPlace, NothingDone)
VALUES = (BadLine, CanNot, TooMuch, Unfit)


class Errors(unittest.TestCase):

    def test_each_is_directly_under_its_base(self):
        for error in LOOKUPS:
            self.assertEqual(error.__bases__, (LookupError,))
        for error in VALUES:
            self.assertEqual(error.__bases__, (ValueError,))

    def test_none_is_under_another_one(self):
        for first, second in itertools.permutations(LOOKUPS + VALUES, 2):
            self.assertFalse(issubclass(first, second))

    def test_there_are_no_others(self):
        found = {name for name, worth in vars(errors).items() if isinstance(worth, type)}
        self.assertEqual(found, {error.__name__ for error in LOOKUPS + VALUES})

    def test_what_they_keep(self):
        self.assertEqual(NoPlace(3).place, 3)
        self.assertEqual(NoPlace(place=-1).place, -1)
        self.assertEqual(BadLine(7).line, 7)
        self.assertEqual(BadLine(line=1).line, 1)

    def test_those_that_keep_nothing_take_nothing(self):
        for error in (NothingDone, CanNot, TooMuch, Unfit):
            self.assertEqual(vars(error()), {})
            with self.assertRaises(TypeError):
                error(1)

    def test_each_can_be_raised_and_caught_by_its_base(self):
        for error in LOOKUPS + VALUES:
            base = error.__bases__[0]
            with self.assertRaises(base):
                raise error(1) if error in (NoPlace, BadLine) else error()


if __name__ == "__main__":
    unittest.main()
