"""The errors of the program: each kind of failure has a class of its own."""

LONGEST_SHOWN = 64


def _shown(number):
    """The number as text for a message, unless it is very long."""
    # Python refuses to write out a number of thousands of digits, and an error has to be made all the same.
    if isinstance(number, int) and number.bit_length() > LONGEST_SHOWN:
        return "a number of many digits"
    return f"{number}"


def _listed(numbers):
    """The numbers as text for a message."""
    return ", ".join([_shown(number) for number in numbers])


class ChairError(ValueError):
    """The base class of all errors of the program."""


class InvalidName(ChairError):
    def __init__(self, name):
        super().__init__(f"not a name of 1 to 12 letters from a to z: {name!r}")
        self.name = name


class DuplicateMake(ChairError):
    def __init__(self, name):
        super().__init__(f"this make is in the list already: {name!r}")
        self.name = name


class UnknownMake(ChairError):
    def __init__(self, name):
        super().__init__(f"this make is not in the list: {name!r}")
        self.name = name


class InvalidNumber(ChairError):
    def __init__(self, number):
        super().__init__(f"this number is out of range: {_shown(number)}")
        self.number = number


class InvalidWord(ChairError):
    def __init__(self, word):
        super().__init__(f"not a word for a trial: {word!r}")
        self.word = word


class Full(ChairError):
    def __init__(self, most):
        super().__init__(f"there is no room for more than {_shown(most)}")
        self.most = most


class UnlikeMakes(ChairError):
    def __init__(self):
        super().__init__("the two lists of makes differ")


class UnknownTrial(ChairError):
    def __init__(self, number):
        super().__init__(f"no trial with this number is kept: {_shown(number)}")
        self.number = number


class Contradiction(ChairError):
    def __init__(self, numbers):
        super().__init__(f"the kept trials with these numbers speak against it: {_listed(numbers)}")
        self.numbers = list(numbers)


class NoGreatest(ChairError):
    def __init__(self, first, middle, last):
        super().__init__(f"{first} may sit on {middle}, {middle} on {last}, but {first} never on {last}")
        self.first = first
        self.middle = middle
        self.last = last


class AlreadySettled(ChairError):
    def __init__(self, word):
        super().__init__(f"the pair is settled already: {word}")
        self.word = word


class TooDoubtful(ChairError):
    def __init__(self, most):
        super().__init__(f"no order disagrees with at most so many of the trials: {_shown(most)}")
        self.most = most


class CannotGrant(ChairError):
    def __init__(self, indexes, numbers):
        super().__init__(f"the wishes {_listed(indexes)} cannot stand; trials against them: {_listed(numbers)}")
        self.indexes = list(indexes)
        self.numbers = list(numbers)


class NotEnough(ChairError):
    def __init__(self, make, available):
        super().__init__(f"chairs of the make {make} that are available: {_shown(available)}")
        self.make = make
        self.available = available


class UnknownLoan(ChairError):
    def __init__(self, number):
        super().__init__(f"there is no loan with this number: {_shown(number)}")
        self.number = number


class NothingToUndo(ChairError):
    def __init__(self):
        super().__init__("there is no deed to take back")


class NothingToRedo(ChairError):
    def __init__(self):
        super().__init__("there is no deed to do again")


class InvalidRow(ChairError):
    def __init__(self, row):
        super().__init__(f"not a row for a desk: {row!r}")
        self.row = row


class RowFailed(ChairError):
    def __init__(self, row_index):
        super().__init__(f"the row with this index failed: {_shown(row_index)}")
        self.row_index = row_index
