"""A hall: chairs, loans and a record of trials, with deeds that can be taken back."""

from chairstack.errors import NothingToRedo, NothingToUndo
from chairstack.records import Record
from chairstack.stacks import cut_stacks, fewest_stacks, tallest_stack
from chairstack.stock import Stock
from chairstack.verdicts import least

DEFAULT_LIMIT = 10


class Hall:
    """A store of chairs with a record.

    A deed works on a copy of the record or of the stock, and the old ones go into the history. So what
    a hall or a history holds never changes, and a call that fails leaves nothing half done.
    """

    def __init__(self, *makes, limit=DEFAULT_LIMIT):
        self._book = Record(*makes)
        self._stock = Stock(makes, limit)
        self._done = []
        self._undone = []

    @property
    def makes(self):
        return self._book.makes

    @property
    def limit(self):
        return self._stock.stack_limit

    @limit.setter
    def limit(self, value):
        self.change_limit(value)

    @property
    def undo_count(self):
        return len(self._done)

    @property
    def redo_count(self):
        return len(self._undone)

    def add_make(self, name, *, height=1):
        """Add a make at the end."""
        book = self._book.copy()
        stock = self._stock.copy()
        book.add_make(name)
        stock.start_make(name, height)
        self._enter(book, stock)

    def note(self, word, upper, lower):
        """Keep a trial and return its number; an error if no order would agree with all trials."""
        book = self._book.copy()
        number = book.note(word, upper, lower)
        self._enter(book, self._stock)
        return number

    def saw(self, *stack):
        """Keep what a standing stack shows, from the floor up, and return the numbers of the new trials."""
        book = self._book.copy()
        numbers = book.saw(*stack)
        if numbers:
            self._enter(book, self._stock)
        return numbers

    def retract(self, number):
        """Take the trial with this number out of the record."""
        book = self._book.copy()
        book.retract(number)
        self._enter(book, self._stock)

    def bring(self, *lots, **counts):
        """Add new chairs: lots are tuples (make, count), and each keyword is a make too."""
        brought = list(lots) + list(counts.items())
        stock = self._stock.copy()
        stock.bring(brought)
        if brought:
            self._enter(self._book, stock)

    def scrap(self, make, count):
        """Take chairs that are at home out of the hall for good."""
        stock = self._stock.copy()
        stock.scrap(make, count)
        self._enter(self._book, stock)

    def lend(self, borrower, make, count):
        """Lend chairs that are at home and return the number of the loan."""
        stock = self._stock.copy()
        number = stock.lend(borrower, make, count)
        self._enter(self._book, stock)
        return number

    def give_back(self, number, count=None):
        """Bring chairs of a loan home; None stands for all of them."""
        stock = self._stock.copy()
        stock.give_back(number, count)
        self._enter(self._book, stock)

    def change_limit(self, value):
        """Set the greatest number of chairs in one stack of the plan."""
        stock = self._stock.copy()
        stock.set_limit(value)
        self._enter(self._book, stock)

    def record(self):
        """A copy of the record."""
        return self._book.copy()

    def heights(self):
        """A dict with the height of each make."""
        return self._stock.heights()

    def counts(self, make):
        """The numbers of chairs of the make as a tuple: owned, at home, lent."""
        return self._stock.counts(make)

    def loans(self):
        """The loans as tuples (number, borrower, make, count), by ascending number."""
        return self._stock.loans()

    def chairs(self):
        """The makes of the chairs at home, one for each chair."""
        return self._stock.chairs()

    def fewest(self):
        """The smallest number of stacks for the chairs at home that stand in every admissible order."""
        return len(self._surest_stacks())

    def plan(self):
        """Stacks of the chairs at home that keep to the limit, each a list of makes from the floor up."""
        chairs = self.chairs()
        return [_makes_at(chairs, piece) for piece in cut_stacks(self._surest_stacks(), self.limit)]

    def tallest(self):
        """The greatest height of a stack of chairs at home that surely stands, and the makes of such a stack."""
        chairs = self.chairs()
        height, stack, _ = tallest_stack(least(self._book), chairs, self.heights())
        return (height, _makes_at(chairs, stack))

    def undo(self):
        """Take the last deed back."""
        if not self._done:
            raise NothingToUndo()
        self._undone.append((self._book, self._stock))
        self._book, self._stock = self._done.pop()

    def redo(self):
        """Do the last deed again that was taken back."""
        if not self._undone:
            raise NothingToRedo()
        self._done.append((self._book, self._stock))
        self._book, self._stock = self._undone.pop()

    def copy(self):
        """An independent hall with the same content and the same history."""
        twin = Hall()
        twin.become(self)
        return twin

    def become(self, other):
        """Take over the content and the history of another hall."""
        self._book = other._book
        self._stock = other._stock
        self._done = list(other._done)
        self._undone = list(other._undone)

    def _enter(self, book, stock):
        """Go on with what a deed has made of the hall."""
        self._done.append((self._book, self._stock))
        self._undone = []
        self._book = book
        self._stock = stock

    def _surest_stacks(self):
        stacks, _ = fewest_stacks(least(self._book), self.chairs())
        return stacks


def _makes_at(chairs, indexes):
    return [chairs[index] for index in indexes]
