"""Numbered trials: lists of any trials, and records that some order agrees with."""

from chairstack.conflicts import smallest_conflict
from chairstack.errors import Contradiction, Full, InvalidWord, UnknownTrial, UnlikeMakes
from chairstack.names import check_known, check_makes, check_new_make
from chairstack.orders import Order

WORDS = ("sits", "refuses")


class TrialList:
    """A list of makes with numbered trials, which may contradict each other."""

    MOST = 60

    def __init__(self, *makes):
        check_makes(makes, Order.MOST)
        self._makes = makes
        self._kept = {}
        self._last_number = 0

    @property
    def makes(self):
        return self._makes

    @property
    def trial_count(self):
        return len(self._kept)

    def add_make(self, name):
        """Put a make at the end of the list."""
        check_new_make(self._makes, name)
        if len(self._makes) >= Order.MOST:
            raise Full(Order.MOST)
        self._makes = self._makes + (name,)

    def note(self, word, upper, lower):
        """Keep a trial and return its number."""
        self._check_trial(word, upper, lower)
        return self._keep(word, upper, lower)

    def retract(self, number):
        """Take the trial with this number out of the list."""
        self._check_kept(number)
        del self._kept[number]

    def trial(self, number):
        """The trial with this number, as a tuple (word, upper, lower)."""
        self._check_kept(number)
        return self._kept[number]

    def trials(self):
        """The kept trials as tuples (number, word, upper, lower), by ascending number."""
        return [(number, *trial) for number, trial in self._kept.items()]

    def against(self, order):
        """The numbers of the kept trials with which the order disagrees, ascending."""
        if order.makes != self._makes:
            raise UnlikeMakes()
        return [
            number
            for number, word, upper, lower in self.trials()
            if order.sits(upper, lower) != (word == "sits")
        ]

    def admits(self, order):
        """True if the order agrees with every kept trial."""
        return self.against(order) == []

    def copy(self):
        """An independent list with the same makes, trials and next number."""
        twin = TrialList(*self._makes)
        self._hand_trials_to(twin)
        return twin

    def _check_trial(self, word, upper, lower):
        if word not in WORDS:
            raise InvalidWord(word)
        check_known(self._makes, upper)
        check_known(self._makes, lower)
        self._check_room(1)

    def _check_room(self, more):
        if self.trial_count + more > self.MOST:
            raise Full(self.MOST)

    def _check_kept(self, number):
        if number not in self._kept:
            raise UnknownTrial(number)

    def _keep(self, word, upper, lower):
        self._last_number += 1
        self._kept[self._last_number] = (word, upper, lower)
        return self._last_number

    def _hand_trials_to(self, twin):
        twin._kept = dict(self._kept)
        # The numbers of retracted trials are not given again, in a copy neither.
        twin._last_number = self._last_number


class Record(TrialList):
    """A list of trials with which at least one order agrees at any time."""

    def note(self, word, upper, lower):
        """Keep a trial and return its number; an error if no order would agree with all trials."""
        self._check_trial(word, upper, lower)
        numbers = smallest_conflict(self.trials(), [(word, upper, lower)])
        if numbers is not None:
            raise Contradiction(numbers)
        return self._keep(word, upper, lower)

    def conflict(self, *pairs):
        """The numbers of as few kept trials as possible that exclude the pairs together, ascending, or None."""
        for upper, lower in pairs:
            check_known(self._makes, upper)
            check_known(self._makes, lower)
        return smallest_conflict(self.trials(), [("sits", upper, lower) for upper, lower in pairs])

    def saw(self, *stack):
        """Keep what a standing stack shows, from the floor up, and return the numbers of the new trials."""
        for make in stack:
            check_known(self._makes, make)
        pairs = list(zip(stack[1:], stack))
        self._check_room(len(pairs))
        numbers = self.conflict(*pairs)
        if numbers is not None:
            raise Contradiction(numbers)
        given = []
        for upper, lower in pairs:
            given.append(self._keep("sits", upper, lower))
        return given

    def copy(self):
        """An independent record with the same makes, trials and next number."""
        twin = Record(*self._makes)
        self._hand_trials_to(twin)
        return twin
