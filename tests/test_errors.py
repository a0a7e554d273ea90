"""The interface of chairstack/errors.py: nineteen classes with their arguments and attributes."""

import unittest

from chairstack import errors

ARGUMENTS = {
    "InvalidName": {"name": "Oak"},
    "DuplicateMake": {"name": "oak"},
    "UnknownMake": {"name": "fir"},
    "InvalidNumber": {"number": 10 ** 30},
    "InvalidWord": {"word": "leans"},
    "Full": {"most": 12},
    "UnlikeMakes": {},
    "UnknownTrial": {"number": -4},
    "Contradiction": {"numbers": [1, 5]},
    "NoGreatest": {"first": "oak", "middle": "ash", "last": "elm"},
    "AlreadySettled": {"word": "sits"},
    "TooDoubtful": {"most": 3},
    "CannotGrant": {"indexes": [0, 2], "numbers": [7]},
    "NotEnough": {"make": "oak", "available": 0},
    "UnknownLoan": {"number": 9},
    "NothingToUndo": {},
    "NothingToRedo": {},
    "InvalidRow": {"row": "sits  oak"},
    "RowFailed": {"row_index": 0},
}


class ErrorClasses(unittest.TestCase):
    def test_base_class(self):
        self.assertEqual(errors.ChairError.__bases__, (ValueError,))

    def test_there_are_nineteen_and_the_base(self):
        classes = [name for name, value in vars(errors).items() if isinstance(value, type)]
        self.assertEqual(sorted(classes), sorted([*ARGUMENTS, "ChairError"]))
        self.assertEqual(len(ARGUMENTS), 19)

    def test_each_is_a_direct_subclass(self):
        for name in ARGUMENTS:
            self.assertEqual(getattr(errors, name).__bases__, (errors.ChairError,), name)

    def test_arguments_are_the_attributes(self):
        for name, attributes in ARGUMENTS.items():
            for error in (
                getattr(errors, name)(*attributes.values()),
                getattr(errors, name)(**attributes),
            ):
                self.assertEqual(vars(error), attributes, name)
                self.assertIsInstance(str(error), str)

    def test_number_of_arguments(self):
        for name, attributes in ARGUMENTS.items():
            with self.assertRaises(TypeError):
                getattr(errors, name)(*attributes.values(), "more")

    def test_numbers_of_any_size(self):
        for name in ("InvalidNumber", "UnknownTrial", "UnknownLoan"):
            for number in (10 ** 5000, -10 ** 5000):
                error = getattr(errors, name)(number)
                self.assertEqual(error.number, number)
                self.assertIsInstance(str(error), str)

    def test_lists_are_copied(self):
        numbers, indexes = [1, 2], [0]
        first = errors.Contradiction(numbers)
        second = errors.CannotGrant(indexes, numbers)
        numbers.append(3)
        indexes.clear()
        self.assertEqual((first.numbers, second.indexes, second.numbers), ([1, 2], [0], [1, 2]))


if __name__ == "__main__":
    unittest.main()
