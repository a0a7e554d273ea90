"""The chairs of a hall: how high and how many they are, how they may be stacked, and who has borrowed some."""

from chairstack.checks import check_from_one
from chairstack.errors import Full, InvalidName, NotEnough, UnknownLoan
from chairstack.names import check_known, is_name

MOST_CHAIRS = 60
GREATEST_HEIGHT = 1000
GREATEST_LIMIT = 60


class Stock:
    """The chairs of some makes, at home and lent."""

    def __init__(self, makes, limit):
        self.set_limit(limit)
        self._heights = {make: 1 for make in makes}
        self._owned = {make: 0 for make in makes}
        self._loans = {}
        self._last_loan = 0

    def copy(self):
        """An independent stock with the same content and the same next number of a loan."""
        twin = Stock([], self.stack_limit)
        twin._heights = dict(self._heights)
        twin._owned = dict(self._owned)
        twin._loans = dict(self._loans)
        twin._last_loan = self._last_loan
        return twin

    def set_limit(self, value):
        """Set the greatest number of chairs in one stack."""
        check_from_one(value, GREATEST_LIMIT)
        self.stack_limit = value

    def start_make(self, name, height):
        """Begin to keep chairs of another make."""
        check_from_one(height, GREATEST_HEIGHT)
        self._heights[name] = height
        self._owned[name] = 0

    def bring(self, lots):
        """Add new chairs, all that the lots (make, count) tell of, or none."""
        for make, count in lots:
            check_known(self._owned, make)
            check_from_one(count)
        if sum(self._owned.values()) + sum([count for _, count in lots]) > MOST_CHAIRS:
            raise Full(MOST_CHAIRS)
        for make, count in lots:
            self._owned[make] += count

    def scrap(self, make, count):
        """Take chairs that are at home away for good."""
        self._check_at_home(make, count)
        self._owned[make] -= count

    def lend(self, borrower, make, count):
        """Lend chairs that are at home and return the number of the loan."""
        if not is_name(borrower):
            raise InvalidName(borrower)
        self._check_at_home(make, count)
        self._last_loan += 1
        self._loans[self._last_loan] = (borrower, make, count)
        return self._last_loan

    def give_back(self, number, count):
        """Bring chairs of a loan home, all of them if count is None."""
        if number not in self._loans:
            raise UnknownLoan(number)
        borrower, make, out = self._loans[number]
        returned = out if count is None else count
        check_from_one(returned)
        if returned > out:
            raise NotEnough(make, out)
        if returned == out:
            del self._loans[number]
        else:
            self._loans[number] = (borrower, make, out - returned)

    def heights(self):
        """A dict with the height of each make."""
        return dict(self._heights)

    def counts(self, make):
        """The numbers of chairs of the make as a tuple: owned, at home, lent."""
        check_known(self._owned, make)
        owned = self._owned[make]
        lent = sum([count for _, lent_make, count in self._loans.values() if lent_make == make])
        return (owned, owned - lent, lent)

    def loans(self):
        """The loans as tuples (number, borrower, make, count), by ascending number."""
        return [(number, *loan) for number, loan in self._loans.items()]

    def chairs(self):
        """The makes of the chairs at home, one for each chair."""
        return [make for make in self._owned for _ in range(self._at_home(make))]

    def _at_home(self, make):
        _, home, _ = self.counts(make)
        return home

    def _check_at_home(self, make, count):
        home = self._at_home(make)
        check_from_one(count)
        if count > home:
            raise NotEnough(make, home)
