"""Orders as rows of bits: bit k of row i is 1 if the make with index i sits on the make with index k.

A place is a pair of makes given by their indexes. No function changes the rows that it is passed,
so that the same rows can be the start of several orders.
"""


def bare_rows(count):
    """The order of so many makes in which each one sits on itself only."""
    return [1 << index for index in range(count)]


def has_place(rows, upper, lower):
    """True if the rows have the pair."""
    return (rows[upper] >> lower) & 1 == 1


def closed_with(rows, places):
    """The smallest order that has the places and all pairs of the rows, which are an order themselves."""
    for upper, lower in places:
        # A new way from one make to another one needs the new pair only once.
        below = rows[lower]
        rows = [row | below if (row >> upper) & 1 else row for row in rows]
    return rows


def marked(rows, upper, lower):
    """The rows with this one pair more; they need not be an order."""
    return [row | (1 << lower) if index == upper else row for index, row in enumerate(rows)]


def share_a_place(rows, others):
    """True if some pair is in both."""
    return any([row & other for row, other in zip(rows, others)])


def unlike_places(count):
    """The pairs of different makes, in the order of pairs."""
    return [(upper, lower) for upper in range(count) for lower in range(count) if upper != lower]


def named_pairs(makes, rows):
    """The pairs of different makes that the rows have, in the order of pairs."""
    return [
        (makes[upper], makes[lower])
        for upper, lower in unlike_places(len(makes))
        if has_place(rows, upper, lower)
    ]
