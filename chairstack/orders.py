"""Orders over a list of makes: which make sits on which."""

from chairstack.errors import UnlikeMakes
from chairstack.names import check_makes, make_index, pair_places
from chairstack.rows import bare_rows, closed_with, has_place, named_pairs


class Order:
    """The smallest order over the makes that has the given pairs. An order never changes."""

    MOST = 12

    def __init__(self, makes, pairs=()):
        check_makes(makes, self.MOST)
        self._makes = tuple(makes)
        self._rows = tuple(closed_with(bare_rows(len(makes)), pair_places(self._makes, pairs)))

    @classmethod
    def bare(cls, makes):
        """The order in which each make sits on itself only."""
        return cls(makes)

    @classmethod
    def full(cls, makes):
        """The order in which each make sits on each make."""
        return cls(makes, [(upper, lower) for upper in makes for lower in makes])

    @property
    def makes(self):
        return self._makes

    def sits(self, upper, lower):
        """True if the order has the pair; an error if one of the makes is not in the list."""
        above = make_index(self._makes, upper)
        return has_place(self._rows, above, make_index(self._makes, lower))

    def pairs(self):
        """The pairs of different makes that the order has, in the order of pairs."""
        return named_pairs(self._makes, self._rows)

    def part_of(self, other):
        """True if the other order has every pair of this one."""
        self._check_makes_of(other)
        return all([pair in other for pair in self.pairs()])

    def groups(self):
        """The makes in groups of makes that are alike."""
        around = [[other for other in self._makes if self._are_alike(make, other)] for make in self._makes]
        # Each group was found once for each of its makes; it is kept for the first one.
        return [group for make, group in zip(self._makes, around) if group[0] == make]

    def lowest_first(self):
        """Yield each make once, a make that is strictly above another one after that one."""
        left = self._makes
        while left:
            lowest = [make for make in left if not self._is_above_any(make, left)][0]
            yield lowest
            left = [make for make in left if make != lowest]

    def __contains__(self, pair):
        upper, lower = pair
        return upper in self._makes and lower in self._makes and self.sits(upper, lower)

    def __len__(self):
        return len(self.pairs())

    def __eq__(self, other):
        return isinstance(other, Order) and self._makes == other._makes and self._rows == other._rows

    def __ne__(self, other):
        return not self == other

    def __and__(self, other):
        self._check_makes_of(other)
        return Order(self._makes, [pair for pair in self.pairs() if pair in other])

    def __or__(self, other):
        self._check_makes_of(other)
        return Order(self._makes, self.pairs() + other.pairs())

    def _check_makes_of(self, other):
        if self._makes != other.makes:
            raise UnlikeMakes()

    def _are_alike(self, first, second):
        return self.sits(first, second) and self.sits(second, first)

    def _is_above_any(self, make, others):
        """True if the make is strictly above one of the others."""
        return any([self.sits(make, other) and not self.sits(other, make) for other in others])


def order_of_rows(makes, rows):
    """The order that has just these rows, which have to be an order.

    Where many orders are made in a row, this saves the time to close each one's pairs again.
    """
    order = Order(makes)
    order._rows = tuple(rows)
    return order
