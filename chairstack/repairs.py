"""The search for an order that disagrees with few trials.

Trials that say the same stand and fall together. So the search works on a dict of costs: from each
different trial, a tuple (word, upper, lower) with the indexes of the makes, to how many trials say so.
"""

from chairstack.paths import shortest_path
from chairstack.rows import bare_rows, closed, has_place, marked


def fitting_rows(makes, trials, wanted, most):
    """The rows of an order that agrees with the wanted trials and disagrees with at most so many of the others.

    All trials are tuples (word, upper, lower). The result is None if there is no such order.
    """
    costs = {}
    for trial in _placed(makes, trials):
        costs[trial] = costs.get(trial, 0) + 1
    for trial in _placed(makes, wanted):
        # A cost that cannot be afforded: a wanted trial is never set aside.
        costs[trial] = most + 1
    return _repaired(len(makes), costs, most)


def _placed(makes, trials):
    return [(word, makes.index(upper), makes.index(lower)) for word, upper, lower in trials]


def _repaired(count, costs, left):
    """The rows of an order that disagrees only with trials whose costs together are at most what is left, or None."""
    rows = closed(marked(bare_rows(count), _places_of(costs, "sits")))
    clashes = [(upper, lower) for upper, lower in _places_of(costs, "refuses") if has_place(rows, upper, lower)]
    if not clashes:
        return rows
    if left == 0:
        return None
    # Each order disagrees with at least one trial of the conflict.
    for trial in _conflict_at(costs, clashes[0]):
        if costs[trial] <= left:
            rest = {other: costs[other] for other in costs if other != trial}
            found = _repaired(count, rest, left - costs[trial])
            if found is not None:
                return found
    return None


def _places_of(costs, wanted):
    return [(upper, lower) for word, upper, lower in costs if word == wanted]


def _conflict_at(costs, clash):
    """Trials that contradict each other: the refusal of this place, and a shortest way that makes it sit."""
    steps = [(upper, lower, [("sits", upper, lower)]) for upper, lower in _places_of(costs, "sits")]
    start, goal = clash
    return [("refuses", start, goal)] + shortest_path(steps, start, goal)
