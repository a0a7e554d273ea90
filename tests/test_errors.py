"""The interface of chairstack/errors.py: nineteen classes with their arguments and attributes."""

import unittest

from chairstack import errors

ARGUMENTS = {
    "InvalidName": {"name": "Oak"},
    "DuplicateMake": {"name": "oak"},
    "UnknownMake": {"name": "fir"},
    "InvalidNumber": {"number": 10 ** 30},
    "InvalidWord": {"word": "leans"},
    "Full": {"most": 12},
    "UnlikeMakes": {},
    "UnknownTrial": {"number": -4},
    "Contradiction": {"numbers": [1, 5]},
    "NoGreatest": {"first": "oak", "middle": "ash", "last": "elm"},
    "AlreadySettled": {"word": "sits"},
    "TooDoubtful": {"most": 3},
    "CannotGrant": {"indexes": [0, 2], "numbers": [7]},
    "NotEnough": {"make": "oak", "available": 0},
    "UnknownLoan": {"number": 9},
    "NothingToUndo": {},
    "NothingToRedo": {},
    "InvalidRow": {"row": "sits  oak"},
    "RowFailed": {"row_index": 0},
}


class ErrorClasses(unittest.TestCase):
    def test_base_class(self):
        self.assertEqual(errors.ChairError.__bases__, (ValueError,))

    def test_there_are_nineteen_and_the_base(self):
        classes = [name for name, value in vars(errors).items() if isinstance(value, type)]
        self.assertEqual(sorted(classes), sorted([*ARGUMENTS, "ChairError"]))
        self.assertEqual(len(ARGUMENTS), 19)

    def test_each_is_a_direct_subclass(self):
        for name in ARGUMENTS:
            self.assertEqual(getattr(errors, name).__bases__, (errors.ChairError,), name)

    def test_arguments_are_the_attributes(self):
        for name, attributes in ARGUMENTS.items():
            for error in (
                getattr(errors, name)(*attributes.values()),
                getattr(errors, name)(**attributes),
            ):
                self.assertEqual(vars(error), attributes, name)
                self.assertIsInstance(str(error), str)

    def test_number_of_arguments(self):
        for name, attributes in ARGUMENTS.items():
            with self.assertRaises(TypeError):
                getattr(errors, name)(*attributes.values(), "more")

    def test_numbers_of_any_size(self):
        seen = []
        for name, attributes in ARGUMENTS.items():
            for word, value in attributes.items():
                for long in (10 ** 5000, -10 ** 5000):
                    # assertEqual would write the numbers out, which Python refuses to do.
                    if type(value) is int:
                        error = getattr(errors, name)(**{**attributes, word: long})
                        self.assertTrue(getattr(error, word) == long, name)
                    elif type(value) is list:
                        error = getattr(errors, name)(**{**attributes, word: [1, long, 2]})
                        self.assertTrue(getattr(error, word) == [1, long, 2], name)
                    else:
                        continue
                    self.assertIsInstance(str(error), str)
                    self.assertIsInstance(repr(error), str)
                    seen.append(word)
        self.assertEqual(len(seen), 2 * 10)

    def test_messages_show_short_numbers(self):
        for number in (0, -7, 60, 10 ** 18):
            for name, attributes in ARGUMENTS.items():
                for word, value in attributes.items():
                    if type(value) in (int, list):
                        given = number if type(value) is int else [number]
                        error = getattr(errors, name)(**{**attributes, word: given})
                        self.assertIn(str(number), str(error), name)

    def test_lists_are_copied(self):
        numbers, indexes = [1, 2], [0]
        first = errors.Contradiction(numbers)
        second = errors.CannotGrant(indexes, numbers)
        numbers.append(3)
        indexes.clear()
        self.assertEqual((first.numbers, second.indexes, second.numbers), ([1, 2], [0], [1, 2]))


if __name__ == "__main__":
    unittest.main()
