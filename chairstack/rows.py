"""Orders as rows of bits: bit k of row i is 1 if the make with index i sits on the make with index k.

A place is a pair of makes given by their indexes. No function changes the rows that it is passed,
so that the same rows can be the start of several orders.
"""


def bare_rows(count):
    """The order of so many makes in which each one sits on itself only."""
    return [1 << index for index in range(count)]


def has_place(rows, upper, lower):
    """True if the rows have the pair."""
    return (rows[upper] >> lower) & 1 == 1


def closed_with(rows, places):
    """The smallest order that has the places and all pairs of the rows, which are an order themselves."""
    for upper, lower in places:
        # A new way from one make to another one needs the new pair only once.
        below = rows[lower]
        rows = [row | below if (row >> upper) & 1 else row for row in rows]
    return rows


def closed(rows):
    """The smallest order that has all pairs of the rows, which have each make on itself."""
    for index in range(len(rows)):
        # After this step each way whose inner makes are the first ones, up to this index, is a pair.
        below = rows[index]
        rows = [row | below if (row >> index) & 1 else row for row in rows]
    return rows


def marked(rows, places):
    """The rows with these places more; they need not be an order."""
    more = list(rows)
    for upper, lower in places:
        more[upper] |= 1 << lower
    return more


def share_a_place(rows, others):
    """True if some pair is in both."""
    return any([row & other for row, other in zip(rows, others)])


def without(rows, others):
    """The places of the rows that the other rows do not have, as rows."""
    return [row & ~other for row, other in zip(rows, others)]


def count_places(rows):
    """The number of places that the rows have."""
    return sum([f"{row:b}".count("1") for row in rows])


def unlike_places(count):
    """The pairs of different makes, in the order of pairs."""
    return [(upper, lower) for upper in range(count) for lower in range(count) if upper != lower]


def places_in(rows):
    """The places of different makes that the rows have, in the order of pairs."""
    return [(upper, lower) for upper, lower in unlike_places(len(rows)) if has_place(rows, upper, lower)]


def named_pairs(makes, rows):
    """The pairs of different makes that the rows have, in the order of pairs."""
    return [(makes[upper], makes[lower]) for upper, lower in places_in(rows)]
