"""Conflicts: few kept trials with which no order agrees, together with wanted ones."""

from chairstack.paths import shortest_paths, sits_steps


def smallest_conflict(trials, wanted):
    """As few numbers as possible of trials such that no order agrees with these and all the wanted ones.

    The trials are tuples (number, word, upper, lower), the wanted ones (word, upper, lower). The numbers are
    ascending. The result is None if an order agrees with all of them.
    """
    steps = sits_steps(trials) + [(upper, lower, []) for word, upper, lower in wanted if word == "sits"]
    found = []
    paths = {}
    for upper, lower, taken in _refusals(trials, wanted):
        if upper not in paths:
            paths[upper] = shortest_paths(steps, upper)
        if lower in paths[upper]:
            found.append(taken + paths[upper][lower])
    return sorted(min(found, key=len)) if found else None


def _refusals(trials, wanted):
    """The refused pairs, each with the number that it takes; a wanted one takes none."""
    kept = [(upper, lower, [number]) for number, word, upper, lower in trials if word == "refuses"]
    return kept + [(upper, lower, []) for word, upper, lower in wanted if word == "refuses"]
