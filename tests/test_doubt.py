"""Points 2 and 38 to 41: DoubtfulRecord."""

import random
import unittest
from itertools import combinations

from caught import check_raises, state
from chairstack.doubt import DoubtfulRecord
from chairstack.errors import Full, InvalidName, InvalidNumber, InvalidWord, TooDoubtful, UnknownMake, UnlikeMakes
from chairstack.orders import Order
from chairstack.records import TrialList
from plain import WOODS, agrees, every_order, plain_verdict

THREE = ["oak", "ash", "elm"]
SETS = {3: every_order(THREE), 4: every_order(WOODS[:4])}


def disagreeing(order, kept):
    """The numbers of the trials with which this set of pairs disagrees."""
    return [trial[0] for trial in kept if not agrees(order, trial[1:])]


def plain_least(sets, kept):
    return min(len(disagreeing(order, kept)) for order in sets)


def plain_admissible(sets, kept, most):
    return [order for order in sets if len(disagreeing(order, kept)) <= most]


def random_trials(source, makes, count):
    """Trials of some order, a part of them misread."""
    pairs = source.choice(SETS[len(makes)])
    some = source.choice((0, 0.2, 0.4, 0.5))
    for _ in range(count):
        pair = source.choice(makes), source.choice(makes)
        yield ("sits" if (pair in pairs) != (source.random() < some) else "refuses", *pair)


def doubtful_records(count, makes, trials, seed):
    """Records with any number of doubt, with repeated trials and with gaps in their numbers."""
    source = random.Random(seed)
    for index in range(count):
        record = DoubtfulRecord(*makes, most_misread=index % 4)
        for trial in random_trials(source, makes, source.randrange(trials + 1)):
            try:
                record.note(*trial)
            except TooDoubtful:
                pass
        for number, *_ in record.trials()[:: 5 + index % 3]:
            record.retract(number)
        yield record


def all_state(record):
    return state(record), record.most_misread


class Making(unittest.TestCase):
    """Point 38."""

    def test_most_misread(self):
        self.assertEqual(DoubtfulRecord().most_misread, 1)
        self.assertEqual(DoubtfulRecord(*THREE).most_misread, 1)
        for most in range(4):
            record = DoubtfulRecord(*THREE, most_misread=most)
            self.assertEqual((record.most_misread, record.makes), (most, tuple(THREE)))
            self.assertEqual((record.trials(), record.trial_count), ([], 0))

    def test_wrong_arguments(self):
        for most in (-1, 4, 5, -10 ** 20, 10 ** 20):
            check_raises(self, InvalidNumber, {"number": most}, DoubtfulRecord, *THREE, most_misread=most)
            check_raises(self, InvalidNumber, {"number": most}, DoubtfulRecord, most_misread=most)
            check_raises(self, InvalidName, {"name": "Oak"}, DoubtfulRecord, "Oak", most_misread=most)
            check_raises(self, Full, {"most": 12}, DoubtfulRecord, *WOODS, "rowan", most_misread=most)

    def test_keyword_only(self):
        with self.assertRaises(TypeError):
            DoubtfulRecord(most=1)
        self.assertTrue(issubclass(DoubtfulRecord, TrialList))
        self.assertEqual(DoubtfulRecord.MOST, 60)

    def test_admits(self):
        for record in doubtful_records(80, THREE, 9, 11):
            before = all_state(record)
            kept = record.trials()
            for pairs in SETS[3]:
                order = Order(THREE, sorted(pairs))
                self.assertEqual(record.against(order), disagreeing(pairs, kept))
                expected = len(disagreeing(pairs, kept)) <= record.most_misread
                self.assertIs(record.admits(order), expected)
            self.assertEqual(all_state(record), before)

    def test_admits_raises_unlike_makes(self):
        record = DoubtfulRecord(*THREE, most_misread=3)
        for makes in ([], ["oak", "ash"], ["ash", "oak", "elm"], [*THREE, "fir"]):
            check_raises(self, UnlikeMakes, {}, record.admits, Order(makes))
            check_raises(self, UnlikeMakes, {}, record.against, Order(makes))

    def test_copy(self):
        for record in doubtful_records(20, THREE, 9, 12):
            twin = record.copy()
            self.assertIs(type(twin), DoubtfulRecord)
            self.assertEqual(all_state(twin), all_state(record))
            before = all_state(record)
            twin.change_most(3)
            twin.note("sits", "oak", "oak")
            twin.add_make("fir")
            self.assertEqual(all_state(record), before)
            twin = record.copy()
            kept = all_state(twin)
            record.change_most(3)
            record.note("sits", "oak", "oak")
            self.assertEqual(all_state(twin), kept)


class Noting(unittest.TestCase):
    """Point 39: note, and that at least one order is admissible at any time (38)."""

    def check_notes(self, makes, count, trials, seed):
        sets = SETS[len(makes)]
        source = random.Random(seed)
        seen = {"kept": 0, "doubtful": 0}
        for index in range(count):
            record = DoubtfulRecord(*makes, most_misread=index % 4)
            most = record.most_misread
            for trial in random_trials(source, makes, trials):
                before, kept = all_state(record), record.trials()
                number = before[0][3]
                if plain_least(sets, [*kept, (number, *trial)]) <= most:
                    self.assertEqual(record.note(*trial), number)
                    self.assertEqual(record.trials(), [*kept, (number, *trial)])
                    seen["kept"] += 1
                else:
                    check_raises(self, TooDoubtful, {"most": most}, record.note, *trial)
                    self.assertEqual(all_state(record), before)
                    seen["doubtful"] += 1
                if record.trial_count and source.random() < 0.2:
                    record.retract(source.choice(record.trials())[0])
                self.assertTrue(plain_admissible(sets, record.trials(), most))
        self.assertGreater(min(seen.values()), 20, seen)

    def test_three_makes(self):
        self.check_notes(THREE, 60, 20, 13)

    def test_four_makes(self):
        self.check_notes(WOODS[:4], 16, 20, 14)

    def test_a_make_that_refuses_itself_is_misread(self):
        record = DoubtfulRecord(*THREE, most_misread=2)
        self.assertEqual([record.note("refuses", "oak", "oak"), record.note("refuses", "elm", "elm")], [1, 2])
        check_raises(self, TooDoubtful, {"most": 2}, record.note, "refuses", "oak", "oak")
        self.assertEqual(record.note("sits", "oak", "oak"), 3)
        check_raises(self, TooDoubtful, {"most": 0}, DoubtfulRecord("oak", most_misread=0).note, "refuses", "oak", "oak")

    def test_no_doubt_is_like_a_record(self):
        record = DoubtfulRecord(*THREE, most_misread=0)
        record.note("sits", "ash", "oak")
        record.note("refuses", "elm", "oak")
        check_raises(self, TooDoubtful, {"most": 0}, record.note, "sits", "elm", "ash")
        check_raises(self, TooDoubtful, {"most": 0}, record.note, "refuses", "ash", "oak")
        self.assertEqual(record.note("refuses", "elm", "ash"), 3)

    def test_checks_in_sequence(self):
        record = DoubtfulRecord(*THREE, most_misread=0)
        for _ in range(60):
            record.note("sits", "ash", "oak")
        before = all_state(record)
        check_raises(self, InvalidWord, {"word": "open"}, record.note, "open", "fir", "oak")
        check_raises(self, UnknownMake, {"name": "fir"}, record.note, "refuses", "fir", "yew")
        check_raises(self, UnknownMake, {"name": "yew"}, record.note, "refuses", "ash", "yew")
        check_raises(self, Full, {"most": 60}, record.note, "refuses", "ash", "oak")
        self.assertEqual(all_state(record), before)
        record.retract(7)
        check_raises(self, TooDoubtful, {"most": 0}, record.note, "refuses", "ash", "oak")
        self.assertEqual(record.note("sits", "ash", "oak"), 61)

    def test_an_added_make(self):
        record = DoubtfulRecord("oak", most_misread=0)
        record.add_make("ash")
        self.assertEqual(record.note("refuses", "ash", "oak"), 1)
        self.assertEqual((record.verdict("ash", "oak"), record.verdict("oak", "ash")), ("refuses", "open"))


class Changing(unittest.TestCase):
    """Point 39: change_most and the property."""

    def test_every_value(self):
        def assign(record, value):
            record.most_misread = value

        for record in doubtful_records(60, THREE, 10, 15):
            least = plain_least(SETS[3], record.trials())
            for value in range(-2, 7):
                for change in (DoubtfulRecord.change_most, assign):
                    twin = record.copy()
                    if not 0 <= value <= 3:
                        check_raises(self, InvalidNumber, {"number": value}, change, twin, value)
                        self.assertEqual(all_state(twin), all_state(record))
                    elif value < least:
                        check_raises(self, TooDoubtful, {"most": value}, change, twin, value)
                        self.assertEqual(all_state(twin), all_state(record))
                    else:
                        self.assertIsNone(change(twin, value))
                        self.assertEqual(all_state(twin), (state(record), value))

    def test_answers_follow_the_number(self):
        record = DoubtfulRecord("oak", "ash")
        record.note("sits", "ash", "oak")
        record.note("sits", "ash", "oak")
        told = []
        for value in (0, 1, 2, 3, 1, 0):
            record.most_misread = value
            told.append((record.verdict("ash", "oak"), record.admits(Order(["oak", "ash"])), record.surely_right()))
        self.assertEqual(told, [
            ("sits", False, [1, 2]), ("sits", False, [1, 2]), ("open", True, []), ("open", True, []),
            ("sits", False, [1, 2]), ("sits", False, [1, 2]),
        ])

    def test_in_place(self):
        record = DoubtfulRecord("oak", most_misread=2)
        record.most_misread += 1
        self.assertEqual(record.most_misread, 3)
        with self.assertRaises(InvalidNumber):
            record.most_misread += 1
        self.assertEqual(record.most_misread, 3)


class Suspects(unittest.TestCase):
    """Point 40."""

    def check(self, record, sets):
        before = all_state(record)
        kept = record.trials()
        against = [disagreeing(order, kept) for order in sets]
        least = min(map(len, against))
        for _ in range(2):
            self.assertEqual(record.least_misread(), least)
            self.assertEqual(record.suspects(), min(numbers for numbers in against if len(numbers) == least))
        self.assertEqual(all_state(record), before)

    def test_three_makes(self):
        found = [0] * 4
        for record in doubtful_records(160, THREE, 24, 16):
            self.check(record, SETS[3])
            found[record.least_misread()] += 1
        self.assertGreater(min(found), 3, found)

    def test_four_makes(self):
        for record in doubtful_records(40, WOODS[:4], 16, 17):
            self.check(record, SETS[4])

    def test_the_number_of_doubt_does_not_matter(self):
        for record in doubtful_records(40, THREE, 16, 18):
            told = record.suspects()
            record.most_misread = 3
            self.assertEqual(record.suspects(), told)

    def test_the_first_of_several_lists(self):
        record = DoubtfulRecord(*THREE, most_misread=3)
        record.note("sits", "ash", "oak")
        record.note("refuses", "ash", "oak")
        self.assertEqual(record.suspects(), [1])
        record.note("refuses", "elm", "elm")
        self.assertEqual(record.suspects(), [1, 3])
        record.note("refuses", "ash", "oak")
        self.assertEqual((record.least_misread(), record.suspects()), (2, [1, 3]))
        record.note("sits", "ash", "oak")
        self.assertEqual((record.least_misread(), record.suspects()), (3, [1, 3, 5]))
        record.retract(1)
        self.assertEqual((record.least_misread(), record.suspects()), (2, [3, 5]))

    def test_a_later_number_may_be_needed(self):
        record = DoubtfulRecord(*THREE, most_misread=1)
        for trial in (("sits", "ash", "oak"), ("sits", "elm", "ash"), ("refuses", "elm", "oak")):
            record.note(*trial)
        self.assertEqual(record.suspects(), [1])
        record.note("sits", "ash", "oak")
        self.assertEqual(record.suspects(), [2])
        record.note("sits", "elm", "ash")
        self.assertEqual(record.suspects(), [3])

    def test_no_suspects(self):
        record = DoubtfulRecord(*THREE, most_misread=3)
        self.assertEqual((record.least_misread(), record.suspects()), (0, []))
        record.note("sits", "ash", "oak")
        self.assertEqual((record.least_misread(), record.suspects()), (0, []))

    def test_suspects_are_enough(self):
        for record in doubtful_records(40, THREE, 20, 19):
            chosen = record.suspects()
            rest = [trial for trial in record.trials() if trial[0] not in chosen]
            self.assertEqual(plain_least(SETS[3], rest), 0)
            for some in combinations(record.trials(), len(chosen) - 1) if chosen else []:
                rest = [trial for trial in record.trials() if trial not in some]
                self.assertGreater(plain_least(SETS[3], rest), 0)


class Verdicts(unittest.TestCase):
    """Point 41."""

    def check(self, record, sets):
        before = all_state(record)
        kept = record.trials()
        orders = plain_admissible(sets, kept, record.most_misread)
        words = {(upper, lower): plain_verdict(orders, (upper, lower)) for upper in record.makes for lower in record.makes}
        for pair, word in words.items():
            self.assertEqual(record.verdict(*pair), word)
        against = [disagreeing(order, kept) for order in orders]
        numbers = [trial[0] for trial in kept]
        misread = [number for number in numbers if all(number in some for some in against)]
        right = [number for number in numbers if not any(number in some for some in against)]
        self.assertEqual((record.surely_misread(), record.surely_right()), (misread, right))
        self.assertEqual(all_state(record), before)
        return bool(misread), bool(right)

    def test_three_makes(self):
        seen = [self.check(record, SETS[3]) for record in doubtful_records(160, THREE, 16, 20)]
        self.assertGreater(min(sum(column) for column in zip(*seen)), 10)

    def test_four_makes(self):
        for record in doubtful_records(40, WOODS[:4], 14, 21):
            self.check(record, SETS[4])

    def test_a_make_with_itself(self):
        record = DoubtfulRecord("oak", most_misread=3)
        self.assertEqual(record.verdict("oak", "oak"), "sits")
        for _ in range(3):
            record.note("refuses", "oak", "oak")
        record.note("sits", "oak", "oak")
        self.assertEqual(record.verdict("oak", "oak"), "sits")
        self.assertEqual((record.surely_misread(), record.surely_right()), ([1, 2, 3], [4]))

    def test_unknown_makes(self):
        record = DoubtfulRecord(*THREE)
        check_raises(self, UnknownMake, {"name": "fir"}, record.verdict, "fir", "yew")
        check_raises(self, UnknownMake, {"name": "yew"}, record.verdict, "oak", "yew")
        check_raises(self, UnknownMake, {"name": "fir"}, record.verdict, "fir", "oak")

    def test_no_trials(self):
        record = DoubtfulRecord(*THREE, most_misread=3)
        self.assertEqual((record.surely_misread(), record.surely_right()), ([], []))
        self.assertEqual(record.verdict("oak", "ash"), "open")

    def test_twelve_makes_and_sixty_trials(self):
        record = DoubtfulRecord(*WOODS, most_misread=3)
        for _ in range(4):
            for lower, upper in zip(WOODS, WOODS[1:]):
                record.note("sits", upper, lower)
        for at in range(10):
            record.note("refuses", WOODS[at], WOODS[at + 2])
        record.note("refuses", "ash", "oak")
        record.note("refuses", "pear", "oak")
        self.assertEqual(record.trial_count, 56)
        self.assertEqual((record.least_misread(), record.suspects()), (2, [55, 56]))
        self.assertEqual(record.verdict("pear", "teak"), "sits")
        self.assertEqual(record.verdict("oak", "pear"), "refuses")
        self.assertEqual(record.verdict("oak", "elm"), "open")
        # One more misread trial is left, and the ones of the chain stand four times each.
        self.assertEqual(record.surely_misread(), [55, 56])
        self.assertEqual(record.surely_right(), list(range(1, 45)))


if __name__ == "__main__":
    unittest.main()
