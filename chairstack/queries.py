"""The next trial: how much each open pair would tell, and which one tells most."""

from chairstack.bounds import barred_rows, least_rows, place_verdict, possible_rows
from chairstack.errors import AlreadySettled, Contradiction
from chairstack.names import make_index
from chairstack.rows import closed_with, count_places, marked, places_in, without


def gain(record, upper, lower):
    """How many open pairs a trial of this open pair would settle: if the one sits on the other, and if not."""
    place = (make_index(record.makes, upper), make_index(record.makes, lower))
    rows = least_rows(record)
    barred = barred_rows(record)
    word = place_verdict(rows, barred, place[0], place[1])
    if word != "open":
        raise AlreadySettled(word)
    return _gain_at(rows, barred, place)


def gains(record):
    """Yield (upper, lower, if_sits, if_refuses) for each open pair, in the order of pairs."""
    makes = record.makes
    rows = least_rows(record)
    barred = barred_rows(record)
    for upper, lower in places_in(_open_rows(rows, barred)):
        if_sits, if_refuses = _gain_at(rows, barred, (upper, lower))
        yield (makes[upper], makes[lower], if_sits, if_refuses)


def next_trial(record):
    """The open pair whose trial tells most, or None."""
    makes = record.makes
    place = _best_place(least_rows(record), barred_rows(record))
    return None if place is None else (makes[place[0]], makes[place[1]])


def settle(record, hidden):
    """The trials, answered by the hidden order, after which it is the only admissible one."""
    numbers = record.against(hidden)
    if numbers:
        raise Contradiction(numbers)
    makes = record.makes
    rows = least_rows(record)
    barred = barred_rows(record)
    answers = []
    place = _best_place(rows, barred)
    while place is not None:
        upper, lower = makes[place[0]], makes[place[1]]
        if hidden.sits(upper, lower):
            answers.append(("sits", upper, lower))
            rows = closed_with(rows, [place])
        else:
            answers.append(("refuses", upper, lower))
            barred = marked(barred, [place])
        place = _best_place(rows, barred)
    return answers


def _open_rows(rows, barred):
    """Rows with the open pairs, where an admissible order has the rows and none of the barred pairs."""
    return without(possible_rows(rows, barred), rows)


def _count_open(rows, barred):
    return count_places(_open_rows(rows, barred))


def _gain_at(rows, barred, place):
    """The two gains of an open pair."""
    before = _count_open(rows, barred)
    if_sits = before - _count_open(closed_with(rows, [place]), barred)
    return (if_sits, before - _count_open(rows, marked(barred, [place])))


def _best_place(rows, barred):
    """The open pair whose trial tells most, or None."""
    rated = [(_gain_at(rows, barred, place), place) for place in places_in(_open_rows(rows, barred))]
    if not rated:
        return None
    # Of several best ones max takes the first, which is the first one in the order of pairs.
    return max(rated, key=lambda row: (min(row[0]), sum(row[0])))[1]
