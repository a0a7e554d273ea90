"""What trials demand of an order: pairs that it must have, and pairs that it must not have."""

from chairstack.names import pair_places
from chairstack.rows import bare_rows, closed, closed_with, has_place, marked, share_a_place


def least_rows(record):
    """The rows of the order that is a part of every admissible order."""
    return _demanded_rows(record.makes, _plain_trials(record))


def barred_rows(record):
    """Rows with the pairs that were refused: an order over least_rows without these pairs is admissible."""
    return _refused_rows(record.makes, _plain_trials(record))


def can_agree(makes, trials):
    """True if some order agrees with all the trials, which are tuples (word, upper, lower)."""
    return not share_a_place(_demanded_rows(makes, trials), _refused_rows(makes, trials))


def is_possible(rows, barred, places):
    """True if an order has the rows and the places, and none of the barred pairs."""
    return not share_a_place(closed_with(rows, places), barred)


def possible_rows(rows, barred):
    """Rows with every pair that some order has that has the rows and none of the barred pairs."""
    return [_possible_below(rows, barred, upper) for upper in range(len(rows))]


def place_verdict(rows, barred, upper, lower):
    """The verdict on a pair over all orders that have the rows and none of the barred pairs."""
    if has_place(rows, upper, lower):
        return "sits"
    return "open" if is_possible(rows, barred, [(upper, lower)]) else "refuses"


def _possible_below(rows, barred, upper):
    """One row of possible_rows."""
    # What sits on the upper make would sit on all that the lower make sits on.
    kept_off = 0
    for row, refused in zip(rows, barred):
        if (row >> upper) & 1:
            kept_off |= refused
    return sum([1 << lower for lower, row in enumerate(rows) if row & kept_off == 0])


def _demanded_rows(makes, trials):
    return closed(marked(bare_rows(len(makes)), _places_of(makes, trials, "sits")))


def _refused_rows(makes, trials):
    return marked([0 for _ in makes], _places_of(makes, trials, "refuses"))


def _places_of(makes, trials, wanted):
    return pair_places(makes, [(upper, lower) for word, upper, lower in trials if word == wanted])


def _plain_trials(record):
    return [(word, upper, lower) for _, word, upper, lower in record.trials()]
