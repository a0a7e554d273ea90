"""What holds in every order that agrees with all trials of a record, and what holds in some of them."""

from chairstack.bounds import barred_rows, is_possible, least_rows, place_verdict, possible_rows
from chairstack.errors import NoGreatest
from chairstack.names import make_index, pair_places
from chairstack.orders import order_of_rows
from chairstack.rows import closed_with, has_place, marked, named_pairs, share_a_place, unlike_places, without


def verdict(record, upper, lower):
    """The word "sits" if every admissible order has the pair, "refuses" if none has it, otherwise "open"."""
    above = make_index(record.makes, upper)
    below = make_index(record.makes, lower)
    return place_verdict(least_rows(record), barred_rows(record), above, below)


def least(record):
    """The admissible order that is a part of every admissible order."""
    return order_of_rows(record.makes, least_rows(record))


def possible_pairs(record):
    """The pairs of different makes that some admissible order has, in the order of pairs."""
    return named_pairs(record.makes, possible_rows(least_rows(record), barred_rows(record)))


def open_pairs(record):
    """Yield the pairs with the verdict "open", in the order of pairs."""
    rows = least_rows(record)
    for pair in named_pairs(record.makes, without(possible_rows(rows, barred_rows(record)), rows)):
        yield pair


def greatest(record):
    """The admissible order of which every admissible order is a part; an error if there is none."""
    makes = record.makes
    rows = possible_rows(least_rows(record), barred_rows(record))
    gaps = _gaps(rows)
    if gaps:
        first, middle, last = gaps[0]
        raise NoGreatest(makes[first], makes[middle], makes[last])
    return order_of_rows(makes, rows)


def grown(record, *pairs):
    """An admissible order that cannot grow; the given pairs have the first chance to be in it."""
    makes = record.makes
    places = pair_places(makes, pairs)
    rows = least_rows(record)
    barred = barred_rows(record)
    for place in places + unlike_places(len(makes)):
        if is_possible(rows, barred, [place]):
            rows = closed_with(rows, [place])
    return order_of_rows(makes, rows)


def all_orders(record):
    """Yield every admissible order once; the one without a pair comes before the one with it."""
    makes = record.makes
    places = unlike_places(len(makes))
    # Each entry is a choice that was put off: what to decide next, the pairs taken, the pairs barred.
    waiting = [(0, least_rows(record), barred_rows(record))]
    while waiting:
        start, rows, barred = waiting.pop()
        for index in range(start, len(places)):
            upper, lower = places[index]
            if not has_place(rows, upper, lower):
                more = closed_with(rows, [(upper, lower)])
                if not share_a_place(more, barred):
                    waiting.append((index + 1, more, barred))
                barred = marked(barred, [(upper, lower)])
        yield order_of_rows(makes, rows)


def alike(record, first, second):
    """The word "alike" if the makes are alike in every admissible order, "unlike" if in none, otherwise "open"."""
    one = make_index(record.makes, first)
    two = make_index(record.makes, second)
    rows = least_rows(record)
    if has_place(rows, one, two) and has_place(rows, two, one):
        return "alike"
    both = [(one, two), (two, one)]
    return "open" if is_possible(rows, barred_rows(record), both) else "unlike"


def _gaps(rows):
    """The triples of indexes whose last pair is missing in the rows for an order."""
    places = range(len(rows))
    return [
        (first, middle, last)
        for first in places
        for middle in places
        if has_place(rows, first, middle)
        for last in places
        if has_place(rows, middle, last) and not has_place(rows, first, last)
    ]
