"""Wishes: stacks that somebody would like, each a list of makes from the floor up."""

from chairstack.bounds import barred_rows, is_possible, least_rows, place_verdict
from chairstack.errors import CannotGrant, Full
from chairstack.names import make_index
from chairstack.orders import order_of_rows
from chairstack.rows import closed_with, has_place, share_a_place

MOST_WISHES = 8


def standing(record, *stack):
    """The word "stands" if the wish stands in every admissible order, "falls" if in none, otherwise "open"."""
    rows = least_rows(record)
    places = _wished_places(record.makes, stack)
    if all([has_place(rows, upper, lower) for upper, lower in places]):
        return "stands"
    return "open" if is_possible(rows, barred_rows(record), places) else "falls"


def trials_to_ask(record, *stack):
    """The open pairs of the wish, each once, from the floor up."""
    makes = record.makes
    rows = least_rows(record)
    barred = barred_rows(record)
    places = _wished_places(makes, stack)
    undecided = [place for place in places if place_verdict(rows, barred, place[0], place[1]) == "open"]
    return _named(makes, undecided)


def grant(record, wishes):
    """The smallest admissible order in which all wishes stand; an error if there is none."""
    makes = record.makes
    rows = least_rows(record)
    barred = barred_rows(record)
    wanted = [_wished_places(makes, wish) for wish in wishes]
    granted = closed_with(rows, _joined(wanted))
    if share_a_place(granted, barred):
        indexes = _clashing(rows, barred, wanted)
        pairs = _named(makes, _joined([wanted[index] for index in indexes]))
        raise CannotGrant(indexes, record.conflict(*pairs))
    return order_of_rows(makes, granted)


def most_granted(record, wishes):
    """The indexes of as many wishes as can stand together; the first one of several such lists."""
    if len(wishes) > MOST_WISHES:
        raise Full(MOST_WISHES)
    wanted = [_wished_places(record.makes, wish) for wish in wishes]
    return _longest_choice(least_rows(record), barred_rows(record), wanted, 0)


def _wished_places(makes, stack):
    """The different pairs of the wish as indexes, from the floor up; an error names the first unknown make."""
    indexes = [make_index(makes, make) for make in stack]
    return list({(upper, lower): True for lower, upper in zip(indexes, indexes[1:])})


def _joined(wanted):
    return [place for places in wanted for place in places]


def _named(makes, places):
    return [(makes[upper], makes[lower]) for upper, lower in places]


def _clashing(rows, barred, wanted):
    """The indexes of the wishes that are left when each one that is not needed for the clash was taken out."""
    # The entry with index k has the pairs of the last k wishes.
    endings = [rows]
    for places in reversed(wanted):
        endings.append(closed_with(endings[-1], places))
    chosen = []
    kept = []
    for index, places in enumerate(wanted):
        later = endings[len(wanted) - 1 - index]
        if is_possible(later, barred, kept):
            chosen.append(index)
            kept = kept + places
    return chosen


def _longest_choice(rows, barred, wanted, start):
    """The first one of the longest lists of indexes, from start on, of wishes that can join the rows together."""
    best = []
    for index in range(start, len(wanted)):
        more = closed_with(rows, wanted[index])
        if not share_a_place(more, barred):
            found = [index] + _longest_choice(more, barred, wanted, index + 1)
            # Of equally long lists the one that was found first has the smaller index where they differ.
            if len(found) > len(best):
                best = found
    return best
