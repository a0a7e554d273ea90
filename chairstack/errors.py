"""The errors of the program: each kind of failure has a class of its own."""


class ChairError(ValueError):
    """The base class of all errors of the program."""


class InvalidName(ChairError):
    def __init__(self, name):
        super().__init__(f"not a name of 1 to 12 letters from a to z: {name!r}")
        self.name = name


class DuplicateMake(ChairError):
    def __init__(self, name):
        super().__init__(f"this make is in the list already: {name!r}")
        self.name = name


class UnknownMake(ChairError):
    def __init__(self, name):
        super().__init__(f"this make is not in the list: {name!r}")
        self.name = name


class InvalidNumber(ChairError):
    def __init__(self, number):
        # The message does not show the number: Python refuses to write out one of thousands of digits.
        super().__init__("this number is out of range")
        self.number = number


class InvalidWord(ChairError):
    def __init__(self, word):
        super().__init__(f"not a word for a trial: {word!r}")
        self.word = word


class Full(ChairError):
    def __init__(self, most):
        super().__init__(f"there is no room for more than {most}")
        self.most = most


class UnlikeMakes(ChairError):
    def __init__(self):
        super().__init__("the two lists of makes differ")


class UnknownTrial(ChairError):
    def __init__(self, number):
        super().__init__("no trial with this number is kept")
        self.number = number


class Contradiction(ChairError):
    def __init__(self, numbers):
        super().__init__(f"the kept trials with these numbers speak against it: {numbers}")
        self.numbers = list(numbers)


class NoGreatest(ChairError):
    def __init__(self, first, middle, last):
        super().__init__(f"{first} may sit on {middle}, {middle} on {last}, but {first} never on {last}")
        self.first = first
        self.middle = middle
        self.last = last


class AlreadySettled(ChairError):
    def __init__(self, word):
        super().__init__(f"the pair is settled already: {word}")
        self.word = word


class TooDoubtful(ChairError):
    def __init__(self, most):
        super().__init__(f"no order disagrees with at most {most} of the trials")
        self.most = most


class CannotGrant(ChairError):
    def __init__(self, indexes, numbers):
        super().__init__(f"the wishes {indexes} cannot stand together with the trials {numbers}")
        self.indexes = list(indexes)
        self.numbers = list(numbers)


class NotEnough(ChairError):
    def __init__(self, make, available):
        super().__init__(f"chairs of the make {make} that are available: {available}")
        self.make = make
        self.available = available


class UnknownLoan(ChairError):
    def __init__(self, number):
        super().__init__("there is no loan with this number")
        self.number = number


class NothingToUndo(ChairError):
    def __init__(self):
        super().__init__("there is no deed to take back")


class NothingToRedo(ChairError):
    def __init__(self):
        super().__init__("there is no deed to do again")


class InvalidRow(ChairError):
    def __init__(self, row):
        super().__init__(f"not a row for a desk: {row!r}")
        self.row = row


class RowFailed(ChairError):
    def __init__(self, row_index):
        super().__init__(f"the row with this index failed: {row_index}")
        self.row_index = row_index
