"""Shortest paths from make to make along trials.

A step is a tuple (upper, lower, numbers): it leads from the upper make to the lower one, and numbers
lists the trial that it takes. The list is empty for a step that takes no trial.
"""


def shortest_path(steps, start, goal):
    """The numbers along a path from start to goal that takes as few trials as possible, or None."""
    paths = {start: []}
    changed = True
    while changed:
        changed = False
        for upper, lower, numbers in steps:
            if upper in paths and _is_shorter(paths[upper] + numbers, paths.get(lower)):
                paths[lower] = paths[upper] + numbers
                changed = True
    return paths.get(goal)


def _is_shorter(path, known):
    return known is None or len(path) < len(known)
