"""Points 2 and 11 to 16, for TrialList and for what Record and DoubtfulRecord inherit of it."""

import unittest

from caught import check_raises, state
from chairstack.doubt import DoubtfulRecord
from chairstack.errors import DuplicateMake, Full, InvalidName, InvalidWord, UnknownMake, UnknownTrial, UnlikeMakes
from chairstack.orders import Order
from chairstack.records import Record, TrialList
from plain import WOODS, agrees, every_order

THREE = ["oak", "ash", "elm"]
STRICT_KINDS = (TrialList, Record)
KINDS = (*STRICT_KINDS, DoubtfulRecord)


def filled(kind, count):
    """A list over three makes with so many trials, which do not contradict each other."""
    record = kind(*THREE)
    for _ in range(count):
        record.note("sits", "ash", "oak")
    return record


class Makes(unittest.TestCase):
    """Point 12."""

    def test_start(self):
        for kind in KINDS:
            for count in (0, 1, 12):
                record = kind(*WOODS[:count])
                self.assertEqual(record.makes, tuple(WOODS[:count]))
                self.assertEqual((record.trials(), record.trial_count), ([], 0))

    def test_most(self):
        self.assertEqual((TrialList.MOST, Record.MOST), (60, 60))

    def test_the_makes_are_checked(self):
        for kind in KINDS:
            check_raises(self, Full, {"most": 12}, kind, "Oak", "Oak", *WOODS[:11])
            check_raises(self, DuplicateMake, {"name": "oak"}, kind, "oak", "oak", "Elm")
            check_raises(self, InvalidName, {"name": "Elm"}, kind, "oak", "Elm", "oak")
            check_raises(self, InvalidName, {"name": ""}, kind, "")

    def test_add_make(self):
        for kind in KINDS:
            record = kind("oak")
            self.assertIsNone(record.add_make("ash"))
            self.assertEqual(record.makes, ("oak", "ash"))
            self.assertEqual(record.note("sits", "ash", "oak"), 1)
            for name in WOODS[2:]:
                record.add_make(name)
            self.assertEqual(record.makes, tuple(WOODS))
            self.assertEqual(record.trials(), [(1, "sits", "ash", "oak")])

    def test_add_make_checks_in_sequence(self):
        for kind in KINDS:
            record = kind(*WOODS)
            before = state(record)
            check_raises(self, InvalidName, {"name": "Oak"}, record.add_make, "Oak")
            check_raises(self, InvalidName, {"name": "abcdefghijklm"}, record.add_make, "abcdefghijklm")
            check_raises(self, DuplicateMake, {"name": "pear"}, record.add_make, "pear")
            check_raises(self, Full, {"most": 12}, record.add_make, "rowan")
            self.assertEqual(state(record), before)

    def test_errors_of_add_make_below_twelve(self):
        for kind in KINDS:
            record = kind("oak")
            check_raises(self, InvalidName, {"name": "o k"}, record.add_make, "o k")
            check_raises(self, DuplicateMake, {"name": "oak"}, record.add_make, "oak")
            self.assertEqual(record.makes, ("oak",))


class Notes(unittest.TestCase):
    """Point 13."""

    def test_numbers(self):
        for kind in KINDS:
            record = kind(*THREE)
            given = [record.note("sits", "ash", "oak"), record.note("refuses", "oak", "elm")]
            given.append(record.note("sits", "ash", "oak"))
            self.assertEqual(given, [1, 2, 3])
            self.assertEqual(
                record.trials(),
                [(1, "sits", "ash", "oak"), (2, "refuses", "oak", "elm"), (3, "sits", "ash", "oak")],
            )
            self.assertEqual(record.trial_count, 3)

    def test_numbers_of_retracted_trials_are_not_given_again(self):
        for kind in KINDS:
            record = filled(kind, 3)
            record.retract(3)
            self.assertEqual(record.note("sits", "elm", "oak"), 4)
            record.retract(1)
            self.assertEqual(record.note("sits", "elm", "oak"), 5)
            for number in (2, 4, 5):
                record.retract(number)
            self.assertEqual((record.trials(), record.trial_count), ([], 0))
            self.assertEqual(record.note("sits", "elm", "oak"), 6)

    def test_full(self):
        for kind in KINDS:
            record = filled(kind, 59)
            self.assertEqual(record.note("refuses", "oak", "elm"), 60)
            self.assertEqual(record.trial_count, 60)
            before = state(record)
            for _ in range(2):
                check_raises(self, Full, {"most": 60}, record.note, "sits", "ash", "oak")
            self.assertEqual(state(record), before)
            record.retract(17)
            self.assertEqual(record.note("sits", "ash", "oak"), 61)
            check_raises(self, Full, {"most": 60}, record.note, "sits", "ash", "oak")

    def test_checks_in_sequence(self):
        for kind in KINDS:
            for record in (filled(kind, 60), filled(kind, 2)):
                before = state(record)
                check_raises(self, InvalidWord, {"word": "leans"}, record.note, "leans", "fir", "yew")
                check_raises(self, UnknownMake, {"name": "fir"}, record.note, "sits", "fir", "yew")
                check_raises(self, UnknownMake, {"name": "yew"}, record.note, "refuses", "oak", "yew")
                self.assertEqual(state(record), before)

    def test_words(self):
        for kind in KINDS:
            record = kind(*THREE)
            for word in ("", "sit", "Sits", "open", "sits ", "refuse", "alike"):
                check_raises(self, InvalidWord, {"word": word}, record.note, word, "ash", "oak")
            self.assertEqual(record.note("sits", "ash", "oak"), 1)

    def test_a_plain_list_keeps_contradictions(self):
        record = TrialList(*THREE)
        trials = [("sits", "ash", "oak"), ("refuses", "ash", "oak"), ("refuses", "elm", "elm"), ("sits", "elm", "elm")]
        self.assertEqual([record.note(*trial) for trial in trials], [1, 2, 3, 4])
        self.assertEqual([trial[1:] for trial in record.trials()], trials)


class Retractions(unittest.TestCase):
    """Point 14."""

    def test_retract_and_trial(self):
        for kind in KINDS:
            record = kind(*THREE)
            record.note("sits", "ash", "oak")
            record.note("refuses", "oak", "elm")
            self.assertEqual(record.trial(1), ("sits", "ash", "oak"))
            self.assertEqual(record.trial(2), ("refuses", "oak", "elm"))
            self.assertIsNone(record.retract(1))
            self.assertEqual(record.trials(), [(2, "refuses", "oak", "elm")])
            self.assertEqual(record.trial(2), ("refuses", "oak", "elm"))
            self.assertEqual(record.trial_count, 1)

    def test_unknown_trials(self):
        for kind in KINDS:
            record = filled(kind, 3)
            record.retract(2)
            before = state(record)
            for number in (0, -1, 2, 4, 10 ** 40):
                check_raises(self, UnknownTrial, {"number": number}, record.retract, number)
                check_raises(self, UnknownTrial, {"number": number}, record.trial, number)
            self.assertEqual(state(record), before)

    def test_results_are_tuples_in_a_new_list(self):
        for kind in KINDS:
            record = filled(kind, 2)
            rows = record.trials()
            self.assertEqual({type(row) for row in rows}, {tuple})
            self.assertIs(type(record.trial(1)), tuple)
            rows.clear()
            self.assertEqual((record.trial_count, len(record.trials())), (2, 2))


class Agreement(unittest.TestCase):
    """Points 11 and 15."""

    def test_against_and_admits(self):
        trials = [(word, a, b) for word in ("sits", "refuses") for a in THREE for b in THREE]
        record = TrialList(*THREE)
        for trial in trials:
            record.note(*trial)
        for pairs in every_order(THREE):
            order = Order(THREE, sorted(pairs))
            for _ in range(2):
                expected = [at + 1 for at, trial in enumerate(trials) if not agrees(pairs, trial)]
                self.assertEqual(record.against(order), expected)
                self.assertIs(record.admits(order), False)

    def test_admits(self):
        for kind in STRICT_KINDS:
            record = kind(*THREE)
            self.assertIs(record.admits(Order.bare(THREE)), True)
            record.note("sits", "ash", "oak")
            record.note("refuses", "elm", "oak")
            for pairs in every_order(THREE):
                order = Order(THREE, sorted(pairs))
                fits = ("ash", "oak") in pairs and ("elm", "oak") not in pairs
                self.assertIs(record.admits(order), fits)
                self.assertEqual(record.against(order) == [], fits)

    def test_numbers_after_retractions(self):
        record = TrialList(*THREE)
        for _ in range(3):
            record.note("sits", "ash", "oak")
            record.note("refuses", "ash", "oak")
        record.retract(2)
        record.retract(5)
        self.assertEqual(record.against(Order.bare(THREE)), [1, 3])
        self.assertEqual(record.against(Order.full(THREE)), [4, 6])
        record.against(Order.bare(THREE)).clear()
        self.assertEqual(record.against(Order.bare(THREE)), [1, 3])

    def test_unlike_makes(self):
        for kind in KINDS:
            record = kind(*THREE)
            for makes in ([], ["oak", "ash"], ["ash", "oak", "elm"], [*THREE, "fir"], ["oak", "ash", "fir"]):
                check_raises(self, UnlikeMakes, {}, record.against, Order(makes))
                check_raises(self, UnlikeMakes, {}, record.admits, Order(makes))
            record.add_make("fir")
            check_raises(self, UnlikeMakes, {}, record.admits, Order(THREE))
            self.assertIs(record.admits(Order([*THREE, "fir"])), True)


class Copies(unittest.TestCase):
    """Point 16."""

    def test_same_content(self):
        for kind in KINDS:
            record = filled(kind, 4)
            record.retract(1)
            record.retract(4)
            twin = record.copy()
            self.assertIs(type(twin), kind)
            self.assertEqual((twin.makes, twin.trials()), (record.makes, record.trials()))
            self.assertEqual(twin.trial_count, 2)
            self.assertEqual(twin.note("sits", "ash", "oak"), 5)

    def test_next_number_after_all_were_retracted(self):
        for kind in KINDS:
            record = filled(kind, 2)
            record.retract(2)
            record.retract(1)
            self.assertEqual(record.copy().copy().note("sits", "ash", "oak"), 3)

    def test_copies_go_their_own_ways(self):
        for kind in KINDS:
            record = filled(kind, 2)
            twin = record.copy()
            record.note("refuses", "oak", "elm")
            record.retract(1)
            record.add_make("fir")
            twin.retract(2)
            self.assertEqual(twin.note("sits", "elm", "oak"), 3)
            twin.add_make("yew")
            self.assertEqual(record.makes, ("oak", "ash", "elm", "fir"))
            self.assertEqual(twin.makes, ("oak", "ash", "elm", "yew"))
            self.assertEqual(record.trials(), [(2, "sits", "ash", "oak"), (3, "refuses", "oak", "elm")])
            self.assertEqual(twin.trials(), [(1, "sits", "ash", "oak"), (3, "sits", "elm", "oak")])

    def test_a_plain_list_copies_contradictions(self):
        record = TrialList("oak")
        record.note("refuses", "oak", "oak")
        record.note("sits", "oak", "oak")
        self.assertEqual(record.copy().trials(), record.trials())


if __name__ == "__main__":
    unittest.main()
