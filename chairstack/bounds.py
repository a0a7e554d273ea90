"""What the trials of a record demand of an order: pairs that it must have, and pairs that it must not have."""

from chairstack.names import pair_places
from chairstack.rows import bare_rows, closed_with, has_place, marked, share_a_place


def least_rows(record):
    """The rows of the order that is a part of every admissible order."""
    return closed_with(bare_rows(len(record.makes)), _places_of(record, "sits"))


def barred_rows(record):
    """Rows with the pairs that were refused: an order over least_rows without these pairs is admissible."""
    rows = [0 for _ in record.makes]
    for upper, lower in _places_of(record, "refuses"):
        rows = marked(rows, upper, lower)
    return rows


def _places_of(record, wanted):
    pairs = [(upper, lower) for _, word, upper, lower in record.trials() if word == wanted]
    return pair_places(record.makes, pairs)


def is_possible(rows, barred, places):
    """True if an order has the rows and the places, and none of the barred pairs."""
    return not share_a_place(closed_with(rows, places), barred)


def place_verdict(rows, barred, upper, lower):
    """The verdict on a pair over all orders that have the rows and none of the barred pairs."""
    if has_place(rows, upper, lower):
        return "sits"
    return "open" if is_possible(rows, barred, [(upper, lower)]) else "refuses"
