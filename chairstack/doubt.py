"""Doubtful records: some of the trials may have been misread."""

from chairstack.bounds import can_agree
from chairstack.certificates import Certificate, OpenCertificate, kept_trials
from chairstack.conflicts import smallest_conflict
from chairstack.errors import InvalidNumber, TooDoubtful
from chairstack.names import check_known
from chairstack.orders import order_of_rows
from chairstack.records import TrialList
from chairstack.repairs import fitting_rows

MOST_DOUBT = 3
OPPOSITE = {"sits": "refuses", "refuses": "sits"}


class DoubtfulRecord(TrialList):
    """A list of trials such that at least one order disagrees with no more of them than may be misread."""

    def __init__(self, *makes, most_misread=1):
        super().__init__(*makes)
        _check_most(most_misread)
        self._most = most_misread

    @property
    def most_misread(self):
        return self._most

    @most_misread.setter
    def most_misread(self, value):
        self.change_most(value)

    def change_most(self, value):
        """Set how many trials may have been misread; an error if no order would be admissible."""
        _check_most(value)
        if not self._can_fit(self.trials(), value):
            raise TooDoubtful(value)
        self._most = value

    def note(self, word, upper, lower):
        """Keep a trial and return its number; an error if no order would be admissible."""
        self._check_trial(word, upper, lower)
        if not self._can_fit([*self.trials(), (0, word, upper, lower)], self._most):
            raise TooDoubtful(self._most)
        return self._keep(word, upper, lower)

    def admits(self, order):
        """True if the order disagrees with no more trials than may be misread."""
        return len(self.against(order)) <= self._most

    def least_misread(self):
        """The smallest number of kept trials with which an order disagrees."""
        most = 0
        while not self._can_fit(self.trials(), most):
            most += 1
        return most

    def suspects(self):
        """The first list of least_misread() numbers such that some order agrees with all other trials."""
        left = self.least_misread()
        rest = self.trials()
        chosen = []
        for trial in self.trials():
            fewer = [other for other in rest if other != trial]
            # A number that no list with the chosen ones has now will not be in one later either.
            if left > 0 and self._can_fit(fewer, left - 1):
                chosen.append(trial[0])
                rest = fewer
                left -= 1
        return chosen

    def verdict(self, upper, lower):
        """The word "sits" if every admissible order has the pair, "refuses" if none has it, otherwise "open"."""
        self._check_pair(upper, lower)
        if self._rows_with("refuses", upper, lower) is None:
            return "sits"
        return "refuses" if self._rows_with("sits", upper, lower) is None else "open"

    def surely_misread(self):
        """The numbers of the kept trials with which every admissible order disagrees."""
        words = self._verdicts_on_trials()
        return [number for number, word, upper, lower in self.trials() if words[(upper, lower)] == OPPOSITE[word]]

    def surely_right(self):
        """The numbers of the kept trials with which every admissible order agrees."""
        words = self._verdicts_on_trials()
        return [number for number, word, upper, lower in self.trials() if words[(upper, lower)] == word]

    def certify(self, upper, lower):
        """A certificate for the verdict on the pair."""
        self._check_pair(upper, lower)
        lacking = self._rows_with("refuses", upper, lower)
        having = self._rows_with("sits", upper, lower)
        if lacking is None:
            return CaseCertificate(upper, lower, "sits", self._cases("sits", upper, lower))
        if having is None:
            return CaseCertificate(upper, lower, "refuses", self._cases("refuses", upper, lower))
        makes = self._makes
        return OpenCertificate(upper, lower, order_of_rows(makes, lacking), order_of_rows(makes, having))

    def copy(self):
        """An independent record with the same makes, trials, next number and number of doubt."""
        twin = DoubtfulRecord(*self._makes, most_misread=self._most)
        self._hand_trials_to(twin)
        return twin

    def _check_pair(self, upper, lower):
        check_known(self._makes, upper)
        check_known(self._makes, lower)

    def _can_fit(self, trials, most):
        """True if some order disagrees with at most so many of these numbered trials."""
        return fitting_rows(self._makes, _plain(trials), [], most) is not None

    def _rows_with(self, word, upper, lower):
        """The rows of an admissible order that agrees with this trial, or None."""
        return fitting_rows(self._makes, _plain(self.trials()), [(word, upper, lower)], self._most)

    def _verdicts_on_trials(self):
        pairs = {(upper, lower): True for _, _, upper, lower in self.trials()}
        return {(upper, lower): self.verdict(upper, lower) for upper, lower in pairs}

    def _cases(self, word, upper, lower):
        conflicts = _conflicts_aside(self.trials(), (OPPOSITE[word], upper, lower), self._most)
        return _tree(conflicts, (), self._most)


class CaseCertificate(Certificate):
    """The opposite of the word is excluded, whichever trials were misread.

    At least one trial of the numbers of a node was misread if the opposite was true. Each child is the case
    that the trial in the same place was.
    """

    CLAIM = "cases"

    def __init__(self, upper, lower, word, cases):
        super().__init__(upper, lower)
        self.word = word
        self.cases = _copied(cases)

    def claim(self):
        """The statement as text."""
        return f"{self.upper} on {self.lower}: {self.word}"

    def holds(self, record):
        """True if the cases exclude every admissible order that agrees with the opposite trial."""
        return super().holds(record) and self.word in OPPOSITE and self._is_valid(self.cases, record, [])

    def _is_valid(self, node, record, aside):
        """True if the node is valid for the numbers that are set aside."""
        numbers, children = node
        if not self._exclude(numbers, record, aside):
            return False
        if len(aside) == record.most_misread:
            return len(children) == 0
        return len(children) == len(numbers) and all(
            [self._is_valid(child, record, [*aside, number]) for number, child in zip(numbers, children)]
        )

    def _exclude(self, numbers, record, aside):
        """True if these are different kept trials, not set aside, that no order with the opposite trial agrees with."""
        kept = kept_trials(record)
        if len(set(numbers)) < len(numbers) or any([number in aside or number not in kept for number in numbers]):
            return False
        opposite = (OPPOSITE[self.word], self.upper, self.lower)
        return not can_agree(record.makes, [kept[number] for number in numbers] + [opposite])


def _check_most(value):
    if not 0 <= value <= MOST_DOUBT:
        raise InvalidNumber(value)


def _plain(trials):
    """The numbered trials without their numbers."""
    return [(word, upper, lower) for _, word, upper, lower in trials]


def _conflicts_aside(trials, opposite, most):
    """The smallest conflict with the opposite trial, for each tuple of numbers that the cases set aside.

    The tuples are ascending: which numbers of a tuple were set aside first does not matter.
    """
    conflicts = {}
    level = [()]
    for _ in range(most + 1):
        for aside in level:
            left = [trial for trial in trials if trial[0] not in aside]
            conflicts[aside] = smallest_conflict(left, [opposite])
        level = list({_with_number(aside, number): True for aside in level for number in conflicts[aside]})
    return conflicts


def _with_number(aside, number):
    return tuple(sorted([*aside, number]))


def _tree(conflicts, aside, most):
    """The node for the numbers that are set aside, with all nodes below it."""
    numbers = conflicts[aside]
    if len(aside) == most:
        return (numbers, [])
    return (numbers, [_tree(conflicts, _with_number(aside, number), most) for number in numbers])


def _copied(node):
    numbers, children = node
    return (list(numbers), [_copied(child) for child in children])
