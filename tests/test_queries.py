"""Points 2 and 35 to 37: the next trial."""

import inspect
import random
import unittest

from caught import check_raises, state
from chairstack.errors import AlreadySettled, Contradiction, UnknownMake, UnlikeMakes
from chairstack.orders import Order
from chairstack.queries import gain, gains, next_trial, settle
from chairstack.records import Record
from chairstack.verdicts import all_orders, open_pairs, verdict
from plain import WOODS, admissible, every_order, pairs_in_order, plain_verdict
from test_records import noted, random_records, settings_of_three

THREE = ["oak", "ash", "elm"]
SETS = every_order(THREE)


def plain_open(makes, orders):
    return [pair for pair in pairs_in_order(makes) if plain_verdict(orders, pair) == "open"]


def plain_gains(makes, orders):
    """A dict from each open pair to its two gains, over these orders."""
    undecided = plain_open(makes, orders)
    found = {}
    for pair in undecided:
        has = [order for order in orders if pair in order]
        lacks = [order for order in orders if pair not in order]
        found[pair] = tuple(len(undecided) - len(plain_open(makes, some)) for some in (has, lacks))
    return found


def plain_next(makes, orders):
    """Point 36, word by word."""
    found = plain_gains(makes, orders)
    if not found:
        return None
    smaller = max(min(two) for two in found.values())
    tops = [pair for pair in found if min(found[pair]) == smaller]
    greater = max(sum(found[pair]) for pair in tops)
    return [pair for pair in tops if sum(found[pair]) == greater][0]


def plain_settle(makes, orders, hidden):
    """Point 37, word by word."""
    answers = []
    while pair := plain_next(makes, orders):
        word = "sits" if pair in hidden else "refuses"
        answers.append((word, *pair))
        orders = [order for order in orders if (pair in order) == (pair in hidden)]
    return answers


class Gains(unittest.TestCase):
    """Point 35."""

    def check(self, record, makes, sets):
        before = state(record)
        expected = plain_gains(makes, admissible(sets, record.trials()))
        self.assertEqual(list(gains(record)), [(*pair, *two) for pair, two in expected.items()])
        for upper in makes:
            for lower in makes:
                if (upper, lower) in expected:
                    two = gain(record, upper, lower)
                    self.assertEqual((type(two), two), (tuple, expected[upper, lower]))
                    self.assertGreaterEqual(min(two), 1)
                else:
                    word = {"word": verdict(record, upper, lower)}
                    check_raises(self, AlreadySettled, word, gain, record, upper, lower)
        self.assertEqual(next_trial(record), plain_next(makes, admissible(sets, record.trials())))
        self.assertEqual(state(record), before)

    def test_three_makes(self):
        for trials in settings_of_three():
            record = noted(trials, THREE)
            if record.trial_count == len(trials):
                self.check(record, THREE, SETS)
        for record in random_records(30, THREE, 12, 9100):
            self.check(record, THREE, SETS)

    def test_four_makes(self):
        four = WOODS[:4]
        sets = every_order(four)
        self.check(Record(*four), four, sets)
        for record in random_records(12, four, 6, 9200):
            self.check(record, four, sets)

    def test_gains_are_what_a_noted_trial_settles(self):
        six = WOODS[:6]
        for record in random_records(6, six, 7, 9300):
            many = len(list(open_pairs(record)))
            for upper, lower, if_sits, if_refuses in gains(record):
                left = []
                for word in ("sits", "refuses"):
                    twin = record.copy()
                    twin.note(word, upper, lower)
                    left.append(many - len(list(open_pairs(twin))))
                self.assertEqual([if_sits, if_refuses], left)

    def test_settled_pairs(self):
        record = Record(*THREE)
        record.note("sits", "ash", "oak")
        record.note("refuses", "elm", "oak")
        check_raises(self, AlreadySettled, {"word": "sits"}, gain, record, "ash", "oak")
        check_raises(self, AlreadySettled, {"word": "refuses"}, gain, record, "elm", "oak")
        check_raises(self, AlreadySettled, {"word": "refuses"}, gain, record, "elm", "ash")
        check_raises(self, AlreadySettled, {"word": "sits"}, gain, record, "elm", "elm")

    def test_unknown_makes_come_first(self):
        record = Record(*THREE)
        record.note("sits", "ash", "oak")
        check_raises(self, UnknownMake, {"name": "fir"}, gain, record, "fir", "yew")
        check_raises(self, UnknownMake, {"name": "yew"}, gain, record, "ash", "yew")
        check_raises(self, UnknownMake, {"name": "fir"}, gain, record, "fir", "oak")
        check_raises(self, UnknownMake, {"name": "fir"}, gain, record, "fir", "fir")

    def test_a_full_record(self):
        record = Record(*THREE)
        for _ in range(60):
            record.note("sits", "ash", "oak")
        self.check(record, THREE, SETS)
        self.assertEqual(gain(record, "elm", "oak"), plain_gains(THREE, admissible(SETS, record.trials()))["elm", "oak"])

    def test_no_open_pair(self):
        settled = Record("oak", "ash")
        settled.note("sits", "oak", "ash")
        settled.note("refuses", "ash", "oak")
        for record in (Record(), Record("oak"), settled):
            self.assertEqual((list(gains(record)), next_trial(record)), ([], None))

    def test_gains_is_a_generator(self):
        self.assertTrue(inspect.isgeneratorfunction(gains))
        record, other = Record(*THREE), Record("oak", "ash")
        expected = list(gains(record))
        one, two, three = gains(record), gains(record), gains(other)
        self.assertEqual(next(one), expected[0])
        self.assertEqual(next(three), ("oak", "ash", 1, 1))
        self.assertEqual(list(two), expected)
        self.assertEqual(list(one), expected[1:])
        self.assertEqual({type(row) for row in expected}, {tuple})


class Next(unittest.TestCase):
    """Point 36."""

    def test_the_smaller_gain_decides_then_the_sum_then_the_order_of_pairs(self):
        seen = {"smaller": 0, "sum": 0, "place": 0}
        for record in random_records(60, WOODS[:5], 7, 9500):
            rows = list(gains(record))
            if not rows:
                continue
            tops = [row for row in rows if min(row[2:]) == max(min(row[2:]) for row in rows)]
            best = [row for row in tops if sum(row[2:]) == max(sum(row[2:]) for row in tops)]
            self.assertEqual(next_trial(record), best[0][:2])
            seen["smaller"] += max(sum(row[2:]) for row in rows) > sum(best[0][2:])
            seen["sum"] += len(best) < len(tops) and next_trial(record) != tops[0][:2]
            seen["place"] += len(best) > 1
        self.assertGreater(min(seen.values()), 0, seen)

    def test_a_bare_record(self):
        self.assertEqual(next_trial(Record(*THREE)), plain_next(THREE, SETS))
        self.assertIs(type(next_trial(Record(*THREE))), tuple)

    def test_twelve_makes(self):
        record = Record(*WOODS)
        for lower, upper in zip(WOODS, WOODS[1:]):
            record.note("sits", upper, lower)
        rows = list(gains(record))
        self.assertEqual(len(rows), 66)
        self.assertIn(next_trial(record), [row[:2] for row in rows])


class Settle(unittest.TestCase):
    """Point 37."""

    def check(self, record, makes, sets):
        before = state(record)
        orders = admissible(sets, record.trials())
        for pairs in orders:
            hidden = Order(makes, sorted(pairs))
            answers = settle(record, hidden)
            self.assertEqual(answers, plain_settle(makes, orders, pairs))
            self.assertEqual(admissible(orders, [(0, *trial) for trial in answers]), [pairs])
        self.assertEqual(state(record), before)

    def test_three_makes(self):
        for trials in list(settings_of_three())[::5]:
            self.check(noted(trials, THREE), THREE, SETS)
        self.check(Record(*THREE), THREE, SETS)

    def test_orders_that_are_not_admissible(self):
        for record in random_records(25, THREE, 8, 9400):
            before = state(record)
            for pairs in SETS:
                order = Order(THREE, sorted(pairs))
                numbers = record.against(order)
                if numbers:
                    check_raises(self, Contradiction, {"numbers": numbers}, settle, record, order)
            self.assertEqual(state(record), before)

    def test_unlike_makes(self):
        record = Record(*THREE)
        record.note("sits", "ash", "oak")
        for makes in ([], ["oak", "ash"], ["ash", "oak", "elm"], [*THREE, "fir"]):
            check_raises(self, UnlikeMakes, {}, settle, record, Order(makes))
        check_raises(self, Contradiction, {"numbers": [1]}, settle, record, Order(THREE))

    def test_each_answer_is_the_next_trial(self):
        source = random.Random(3)
        for count in (4, 5, 6):
            makes = WOODS[:count]
            for _ in range(4):
                record = Record(*makes)
                hidden = Order(makes, [(source.choice(makes), source.choice(makes)) for _ in range(count - 2)])
                first = [("sits", *pair) for pair in hidden.pairs()[:1]]
                for trial in first:
                    record.note(*trial)
                answers = settle(record, hidden)
                for word, upper, lower in answers:
                    self.assertEqual(next_trial(record), (upper, lower))
                    self.assertEqual(word == "sits", hidden.sits(upper, lower))
                    record.note(word, upper, lower)
                self.assertIsNone(next_trial(record))
                self.assertEqual(list(all_orders(record)), [hidden])

    def test_nothing_to_ask(self):
        self.assertEqual(settle(Record(), Order([])), [])
        self.assertEqual(settle(Record("oak"), Order(["oak"])), [])
        record = Record("oak", "ash")
        record.note("sits", "oak", "ash")
        record.note("sits", "ash", "oak")
        self.assertEqual(settle(record, Order.full(["oak", "ash"])), [])

    def test_the_limit_of_sixty_does_not_hold(self):
        record = Record(*WOODS)
        for _ in range(60):
            record.note("sits", "oak", "oak")
        answers = settle(record, Order.bare(WOODS))
        self.assertEqual(answers, settle(Record(*WOODS), Order.bare(WOODS)))
        self.assertEqual(sorted(answers), sorted(("refuses", *pair) for pair in pairs_in_order(WOODS)))
        self.assertEqual(record.trial_count, 60)
        asked = settle(record, Order.full(WOODS))
        self.assertEqual(Order(WOODS, [trial[1:] for trial in asked]), Order.full(WOODS))
        self.assertEqual({trial[0] for trial in asked}, {"sits"})

    def test_results_are_new_lists_of_tuples(self):
        record = Record(*THREE)
        answers = settle(record, Order.bare(THREE))
        self.assertEqual({type(trial) for trial in answers}, {tuple})
        answers.clear()
        self.assertNotEqual(settle(record, Order.bare(THREE)), [])


if __name__ == "__main__":
    unittest.main()
