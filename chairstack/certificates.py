"""Certificates: what holds for a pair of makes, with all that is needed to check it against the kept trials."""

from chairstack.orders import Order
from chairstack.paths import shortest_path, sits_steps
from chairstack.verdicts import least, verdict


class Certificate:
    """A statement about a pair of makes. This base class states nothing but that the makes are known."""

    CLAIM = "nothing"

    def __init__(self, upper, lower):
        self.upper = upper
        self.lower = lower

    def claim(self):
        """The statement as text."""
        return f"{self.upper} on {self.lower}: {self.CLAIM}"

    def holds(self, record):
        """True if the trials that the record keeps now bear the statement out."""
        return self.upper in record.makes and self.lower in record.makes


class SitsCertificate(Certificate):
    """Every admissible order has the pair, since a path of trials leads from the upper make to the lower one."""

    CLAIM = "sits"

    def __init__(self, upper, lower, path):
        super().__init__(upper, lower)
        self.path = list(path)

    def holds(self, record):
        """True if the path is one of kept trials."""
        return super().holds(record) and _is_path(kept_trials(record), self.path, self.upper, self.lower)


class RefusesCertificate(Certificate):
    """No admissible order has the pair, since with the two paths it would make a refused pair sit."""

    CLAIM = "refuses"

    def __init__(self, upper, lower, before, number, after):
        super().__init__(upper, lower)
        self.before = list(before)
        self.number = number
        self.after = list(after)

    def holds(self, record):
        """True if the refused pair and both paths are kept trials."""
        kept = kept_trials(record)
        if not super().holds(record) or self.number not in kept:
            return False
        word, first, last = kept[self.number]
        return (
            word == "refuses"
            and _is_path(kept, self.before, first, self.upper)
            and _is_path(kept, self.after, self.lower, last)
        )


class OpenCertificate(Certificate):
    """The trials leave the pair open, since one admissible order lacks it and another one has it."""

    CLAIM = "open"

    def __init__(self, upper, lower, lacking, having):
        super().__init__(upper, lower)
        self.lacking = lacking
        self.having = having

    def holds(self, record):
        """True if both orders are admissible, and only the second one has the pair."""
        if not super().holds(record) or self.lacking.makes != record.makes or self.having.makes != record.makes:
            return False
        return (
            record.admits(self.lacking)
            and record.admits(self.having)
            and not self.lacking.sits(self.upper, self.lower)
            and self.having.sits(self.upper, self.lower)
        )


def certify(record, upper, lower):
    """A certificate for the verdict on the pair."""
    word = verdict(record, upper, lower)
    if word == "sits":
        return SitsCertificate(upper, lower, shortest_path(sits_steps(record.trials()), upper, lower))
    if word == "refuses":
        before, number, after = _shortest_refusal(record.trials(), upper, lower)
        return RefusesCertificate(upper, lower, before, number, after)
    lacking = least(record)
    return OpenCertificate(upper, lower, lacking, lacking | Order(record.makes, [(upper, lower)]))


def kept_trials(record):
    """The kept trials as tuples (word, upper, lower), by their numbers."""
    return {number: (word, upper, lower) for number, word, upper, lower in record.trials()}


def _is_path(kept, path, start, goal):
    """True if the numbers are those of kept trials that lead from start to goal."""
    at = start
    for number in path:
        if number not in kept:
            return False
        word, upper, lower = kept[number]
        if word != "sits" or upper != at:
            return False
        at = lower
    return at == goal


def _shortest_refusal(trials, upper, lower):
    """The path before, the number and the path after for a pair that no admissible order has."""
    steps = sits_steps(trials)
    found = []
    for number, word, first, last in trials:
        if word == "refuses":
            before = shortest_path(steps, first, upper)
            after = shortest_path(steps, lower, last)
            if before is not None and after is not None:
                found.append((before, number, after))
    return min(found, key=lambda parts: len(parts[0]) + len(parts[2]))
