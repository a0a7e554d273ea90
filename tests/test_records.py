"""Points 2 and 17 to 19: Record."""

import random
import unittest
from itertools import product

from caught import check_raises, state
from chairstack.errors import ChairError, Contradiction, Full, InvalidWord, UnknownMake
from chairstack.records import Record, TrialList
from plain import WOODS, Judge, admissible, check_conflict, pairs_in_order

THREE = ["oak", "ash", "elm"]
EVERY_TRIAL = [(word, a, b) for word in ("sits", "refuses") for a in THREE for b in THREE]


def settings_of_three():
    """For each of the six pairs of three makes: no trial, one that sits, or one that refuses."""
    for words in product((None, "sits", "refuses"), repeat=6):
        yield [(word, *pair) for word, pair in zip(words, pairs_in_order(THREE)) if word]


def noted(trials, makes):
    """A record with those of the trials that do not contradict the earlier ones."""
    record = Record(*makes)
    for trial in trials:
        try:
            record.note(*trial)
        except Contradiction:
            pass
    return record


def random_trials(makes, count, seed):
    source = random.Random(seed)

    def pick(values):
        return values[int(source.random() * len(values))]

    return [(pick(("sits", "sits", "refuses")), pick(makes), pick(makes)) for _ in range(count)]


def random_records(count, makes, trials, seed):
    """Records with many trials, also with repeated ones and with gaps in their numbers."""
    for index in range(count):
        record = noted(random_trials(makes, trials, seed + index), makes)
        for number, *_ in record.trials()[:: 4 + index % 3]:
            record.retract(number)
        yield record


class Noting(unittest.TestCase):
    """Points 17 and 18, over all sets of pairs of three makes."""

    judge = Judge(THREE)

    def check_note(self, record, trial):
        """Note one trial in a copy of the record, and hold the result against the plain orders."""
        kept = record.trials()
        twin = record.copy()
        before = state(twin)
        if admissible(self.judge.orders, kept + [(0, *trial)]):
            self.assertEqual(twin.note(*trial), before[3])
            self.assertEqual(twin.trials(), kept + [(before[3], *trial)])
        else:
            with self.assertRaises(Contradiction) as caught:
                twin.note(*trial)
            check_conflict(self, self.judge, kept, [trial], caught.exception.numbers)
            self.assertEqual(state(twin), before)
        self.assertEqual(record.trials(), kept)

    def test_every_next_trial(self):
        for trials in settings_of_three():
            record = noted(trials, THREE)
            if record.trial_count == len(trials):
                for trial in EVERY_TRIAL:
                    self.check_note(record, trial)

    def test_contradictory_settings_are_refused(self):
        for trials in settings_of_three():
            kept = [(0, *trial) for trial in trials]
            agreed = bool(admissible(self.judge.orders, kept))
            self.assertEqual(noted(trials, THREE).trial_count == len(trials), agreed)

    def test_repeated_trials_and_retractions(self):
        for record in random_records(40, THREE, 14, 300):
            self.assertTrue(admissible(self.judge.orders, record.trials()))
            for trial in EVERY_TRIAL:
                self.check_note(record, trial)

    def test_a_make_with_itself(self):
        record = Record(*THREE)
        self.assertEqual(record.note("sits", "oak", "oak"), 1)
        for make in THREE:
            check_raises(self, Contradiction, {"numbers": []}, record.note, "refuses", make, make)
        self.assertEqual(record.note("sits", "oak", "oak"), 2)
        self.assertEqual(record.trials(), [(1, "sits", "oak", "oak"), (2, "sits", "oak", "oak")])

    def test_an_error_uses_up_no_number(self):
        record = Record(*THREE)
        record.note("sits", "ash", "oak")
        for _ in range(3):
            check_raises(self, Contradiction, {"numbers": [1]}, record.note, "refuses", "ash", "oak")
        self.assertEqual(record.note("sits", "elm", "oak"), 2)

    def test_checks_in_sequence(self):
        record = Record(*THREE)
        record.note("sits", "ash", "oak")
        check_raises(self, InvalidWord, {"word": "falls"}, record.note, "falls", "fir", "oak")
        check_raises(self, UnknownMake, {"name": "fir"}, record.note, "refuses", "fir", "yew")
        check_raises(self, UnknownMake, {"name": "yew"}, record.note, "refuses", "ash", "yew")
        check_raises(self, Contradiction, {"numbers": [1]}, record.note, "refuses", "ash", "oak")
        for _ in range(59):
            record.note("sits", "ash", "oak")
        before = state(record)
        check_raises(self, Full, {"most": 60}, record.note, "refuses", "ash", "oak")
        check_raises(self, Full, {"most": 60}, record.note, "refuses", "oak", "oak")
        self.assertEqual(state(record), before)

    def test_a_retracted_trial_speaks_no_more(self):
        record = Record(*THREE)
        record.note("sits", "ash", "oak")
        record.note("sits", "elm", "ash")
        check_raises(self, Contradiction, {"numbers": [1, 2]}, record.note, "refuses", "elm", "oak")
        record.retract(1)
        self.assertEqual(record.note("refuses", "elm", "oak"), 3)
        check_raises(self, Contradiction, {"numbers": [2, 3]}, record.note, "sits", "ash", "oak")

    def test_a_shorter_way_is_taken(self):
        record = Record(*WOODS)
        for lower, upper in zip(WOODS, WOODS[1:]):
            record.note("sits", upper, lower)
        record.note("sits", "pear", "fir")
        error = check_raises(self, Contradiction, {}, record.note, "refuses", "pear", "oak")
        self.assertEqual(error.numbers, [1, 2, 3, 12])
        record.retract(12)
        error = check_raises(self, Contradiction, {}, record.note, "refuses", "pear", "oak")
        self.assertEqual(error.numbers, list(range(1, 12)))

    def test_is_a_trial_list(self):
        self.assertTrue(issubclass(Record, TrialList))


class Conflicts(unittest.TestCase):
    """Point 18: conflict."""

    judge = Judge(THREE)

    def check(self, judge, record, pairs):
        before = state(record)
        wanted = [("sits", *pair) for pair in pairs]
        for _ in range(2):
            check_conflict(self, judge, record.trials(), wanted, record.conflict(*pairs))
        self.assertEqual(state(record), before)

    def test_every_one_and_two_pairs(self):
        every = [(a, b) for a in THREE for b in THREE]
        for trials in list(settings_of_three())[::7]:
            record = noted(trials, THREE)
            for first in every:
                self.check(self.judge, record, [first])
                for second in every:
                    self.check(self.judge, record, [first, second])

    def test_all_pairs_of_every_set(self):
        for choice in product((False, True), repeat=6):
            pairs = [pair for pair, taken in zip(pairs_in_order(THREE), choice) if taken]
            for record in random_records(6, THREE, 9, 40):
                self.check(self.judge, record, pairs)
                self.check(self.judge, record, pairs[::-1] + pairs)

    def test_four_makes(self):
        four = WOODS[:4]
        judge = Judge(four)
        for index, record in enumerate(random_records(40, four, 12, 700)):
            self.check(judge, record, [])
            for size in (1, 2, 3):
                self.check(judge, record, [trial[1:] for trial in random_trials(four, size, 50 * index + size)])

    def test_no_pairs(self):
        for trials in settings_of_three():
            self.assertIsNone(noted(trials, THREE).conflict())
        self.assertIsNone(Record().conflict())

    def test_pairs_that_are_no_trials_cost_nothing(self):
        record = Record("oak", "ash", "elm", "fir", "yew")
        record.note("refuses", "yew", "oak")
        record.note("sits", "ash", "oak")
        record.note("sits", "yew", "fir")
        self.assertEqual(record.conflict(("yew", "ash")), [1, 2])
        self.assertEqual(record.conflict(("yew", "ash"), ("ash", "oak")), [1])
        self.assertEqual(record.conflict(("elm", "ash"), ("fir", "elm")), [1, 2, 3])
        self.assertIsNone(record.conflict(("elm", "ash"), ("elm", "fir"), ("oak", "yew")))

    def test_unknown_makes(self):
        record = Record(*THREE)
        record.note("refuses", "ash", "oak")
        check_raises(self, UnknownMake, {"name": "fir"}, record.conflict, ("ash", "oak"), ("fir", "yew"))
        check_raises(self, UnknownMake, {"name": "yew"}, record.conflict, ("oak", "yew"), ("fir", "oak"))
        check_raises(self, UnknownMake, {"name": "yew"}, Record().conflict, ("yew", "fir"))

    def test_a_full_record(self):
        record = Record(*THREE)
        for _ in range(59):
            record.note("sits", "ash", "oak")
        record.note("refuses", "elm", "oak")
        numbers = record.conflict(("elm", "ash"))
        self.assertEqual((len(numbers), numbers[1]), (2, 60))

    def test_returned_list_is_new(self):
        record = Record(*THREE)
        record.note("refuses", "ash", "oak")
        record.conflict(("ash", "oak")).append(7)
        self.assertEqual(record.conflict(("ash", "oak")), [1])


class Sights(unittest.TestCase):
    """Point 19: saw."""

    judge = Judge(THREE)

    def check_saw(self, record, stack):
        kept = record.trials()
        twin = record.copy()
        before = state(twin)
        wanted = [("sits", stack[at], stack[at - 1]) for at in range(1, len(stack))]
        if admissible(self.judge.orders, kept + [(0, *trial) for trial in wanted]):
            numbers = list(range(before[3], before[3] + len(wanted)))
            self.assertEqual(twin.saw(*stack), numbers)
            self.assertEqual(twin.trials(), kept + [(number, *trial) for number, trial in zip(numbers, wanted)])
        else:
            with self.assertRaises(Contradiction) as caught:
                twin.saw(*stack)
            check_conflict(self, self.judge, kept, wanted, caught.exception.numbers)
            self.assertEqual(state(twin), before)

    def test_stacks_over_three_makes(self):
        stacks = [stack for size in range(5) for stack in product(THREE, repeat=size)]
        for trials in list(settings_of_three())[::9]:
            record = noted(trials, THREE)
            for stack in stacks:
                self.check_saw(record, stack)

    def test_from_the_floor_up(self):
        record = Record(*THREE)
        self.assertEqual(record.saw("elm", "oak", "oak", "ash"), [1, 2, 3])
        self.assertEqual(
            record.trials(),
            [(1, "sits", "oak", "elm"), (2, "sits", "oak", "oak"), (3, "sits", "ash", "oak")],
        )

    def test_short_stacks(self):
        record = Record(*THREE)
        self.assertEqual((record.saw(), record.saw("oak")), ([], []))
        check_raises(self, UnknownMake, {"name": "fir"}, record.saw, "fir")
        check_raises(self, UnknownMake, {"name": ""}, record.saw, "")
        self.assertEqual((record.trials(), record.note("sits", "ash", "oak")), ([], 1))

    def test_room_for_sixty(self):
        record = Record(*THREE)
        self.assertEqual(record.saw(*["oak"] * 61), list(range(1, 61)))
        before = state(record)
        self.assertEqual((record.saw(), record.saw("oak")), ([], []))
        check_raises(self, Full, {"most": 60}, record.saw, "oak", "oak")
        self.assertEqual(state(record), before)
        record.retract(60)
        check_raises(self, Full, {"most": 60}, record.saw, "oak", "oak", "oak")
        self.assertEqual(record.saw("oak", "oak"), [61])

    def test_too_long_at_once(self):
        record = Record(*THREE)
        check_raises(self, Full, {"most": 60}, record.saw, *["oak"] * 62)
        self.assertEqual((record.trials(), record.note("sits", "ash", "oak")), ([], 1))

    def test_checks_in_sequence(self):
        record = Record(*THREE)
        record.note("refuses", "ash", "oak")
        for _ in range(58):
            record.note("sits", "elm", "oak")
        before = state(record)
        check_raises(self, UnknownMake, {"name": "yew"}, record.saw, "oak", "ash", "yew", "fir")
        check_raises(self, UnknownMake, {"name": "fir"}, record.saw, "fir", "oak", "yew")
        check_raises(self, Full, {"most": 60}, record.saw, "oak", "ash", "oak")
        check_raises(self, Contradiction, {"numbers": [1]}, record.saw, "oak", "ash")
        self.assertEqual(state(record), before)
        self.assertEqual(record.saw("ash", "oak"), [60])

    def test_the_pairs_count_together(self):
        record = Record(*THREE)
        record.note("refuses", "elm", "oak")
        check_raises(self, Contradiction, {"numbers": [1]}, record.saw, "oak", "ash", "elm")
        self.assertEqual((record.trial_count, record.saw("oak", "ash")), (1, [2]))


class OwnMethods(unittest.TestCase):
    def test_record_defines_its_own_methods(self):
        for name in ("note", "conflict", "saw", "copy"):
            self.assertIn(name, vars(Record))

    def test_errors_share_nothing_with_the_record(self):
        record = Record(*THREE)
        record.note("sits", "ash", "oak")
        with self.assertRaises(ChairError) as caught:
            record.note("refuses", "ash", "oak")
        caught.exception.numbers.append(5)
        check_raises(self, Contradiction, {"numbers": [1]}, record.note, "refuses", "ash", "oak")
        self.assertEqual(record.trials(), [(1, "sits", "ash", "oak")])


if __name__ == "__main__":
    unittest.main()
