"""Shortest paths from make to make along trials.

A step is a tuple (upper, lower, taken): it leads from the upper make to the lower one, and taken lists the
trial that it takes. The list is empty for a step that takes no trial.
"""


def shortest_paths(steps, start):
    """For each make that can be reached: the trials of a path from start to it that takes as few as possible."""
    paths = {start: []}
    changed = True
    while changed:
        changed = False
        for upper, lower, taken in steps:
            if upper in paths and _is_shorter(paths[upper] + taken, paths.get(lower)):
                paths[lower] = paths[upper] + taken
                changed = True
    return paths


def shortest_path(steps, start, goal):
    """The trials of a path from start to goal that takes as few as possible, or None."""
    return shortest_paths(steps, start).get(goal)


def sits_steps(trials):
    """The steps along the trials with the word "sits", each of which takes its number."""
    return [(upper, lower, [number]) for number, word, upper, lower in trials if word == "sits"]


def _is_shorter(path, known):
    return known is None or len(path) < len(known)
