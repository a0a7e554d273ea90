"""Points 2, 44 and 45: wishes."""

import random
import unittest
from itertools import combinations, product

from caught import check_raises, state
from chairstack.errors import CannotGrant, Full, UnknownMake
from chairstack.orders import Order
from chairstack.records import Record
from chairstack.verdicts import least
from chairstack.wishes import grant, most_granted, standing, trials_to_ask
from plain import WOODS, Judge, admissible, check_conflict, closure, every_order, plain_verdict
from test_records import noted, random_records, settings_of_three

THREE = ["oak", "ash", "elm"]
SETS = every_order(THREE)
JUDGE = Judge(THREE)
WISHES = [list(wish) for size in range(4) for wish in product(THREE, repeat=size)]


def every_setting():
    """A record for each setting of trials over three makes that do not contradict each other."""
    for trials in settings_of_three():
        record = noted(trials, THREE)
        if record.trial_count == len(trials):
            yield record


def wish_pairs(wish):
    return [(upper, lower) for lower, upper in zip(wish, wish[1:])]


def stands(order, wishes):
    return all(pair in order for wish in wishes for pair in wish_pairs(wish))


def can_stand(orders, wishes):
    return any(stands(order, wishes) for order in orders)


def plain_left(orders, wishes):
    """The indexes that point 45 keeps, word by word."""
    left = list(range(len(wishes)))
    for index in range(len(wishes)):
        without = [other for other in left if other != index]
        if not can_stand(orders, [wishes[other] for other in without]):
            left = without
    return left


def plain_most(orders, wishes):
    """Point 45: the longest list of indexes, the first one of several."""
    for size in range(len(wishes), -1, -1):
        fitting = [
            list(chosen)
            for chosen in combinations(range(len(wishes)), size)
            if can_stand(orders, [wishes[index] for index in chosen])
        ]
        if fitting:
            return min(fitting)
    return None


def some_wishes(source, makes, many, longest):
    return [[source.choice(makes) for _ in range(source.randrange(longest + 1))] for _ in range(many)]


class Standing(unittest.TestCase):
    """Point 44."""

    def check(self, record, makes, sets, wishes):
        before = state(record)
        orders = admissible(sets, record.trials())
        for wish in wishes:
            held = [stands(order, [wish]) for order in orders]
            expected = "stands" if all(held) else "open" if any(held) else "falls"
            self.assertEqual(standing(record, *wish), expected)
            pairs = wish_pairs(wish)
            undecided = [pair for pair in pairs if plain_verdict(orders, pair) == "open"]
            first = [pair for at, pair in enumerate(undecided) if pair not in undecided[:at]]
            self.assertEqual(trials_to_ask(record, *wish), first)
        self.assertEqual(state(record), before)

    def test_three_makes(self):
        for record in every_setting():
            self.check(record, THREE, SETS, WISHES)

    def test_longer_wishes(self):
        source = random.Random(44)
        for record in random_records(40, THREE, 9, 4400):
            self.check(record, THREE, SETS, some_wishes(source, THREE, 12, 9))

    def test_four_makes(self):
        source = random.Random(45)
        four = WOODS[:4]
        sets = every_order(four)
        for record in random_records(25, four, 7, 4500):
            self.check(record, four, sets, some_wishes(source, four, 15, 6))

    def test_short_wishes_stand(self):
        record = Record(*THREE)
        record.note("refuses", "ash", "oak")
        for wish in ([], ["oak"], ["ash"], ["oak", "oak"], ["elm", "elm", "elm"]):
            self.assertEqual((standing(record, *wish), trials_to_ask(record, *wish)), ("stands", []))
        self.assertEqual((standing(Record()), trials_to_ask(Record())), ("stands", []))

    def test_it_can_fall_without_a_refused_pair(self):
        record = Record(*THREE)
        record.note("refuses", "elm", "oak")
        self.assertEqual(standing(record, "oak", "ash"), "open")
        self.assertEqual(standing(record, "ash", "elm"), "open")
        self.assertEqual(standing(record, "oak", "ash", "elm"), "falls")
        self.assertEqual(standing(record, "oak", "ash", "oak", "ash", "elm"), "falls")
        self.assertEqual(trials_to_ask(record, "oak", "ash", "elm"), [("ash", "oak"), ("elm", "ash")])

    def test_a_pair_is_asked_once_where_it_occurs_first(self):
        record = Record(*THREE)
        record.note("sits", "elm", "ash")
        told = trials_to_ask(record, "oak", "ash", "oak", "ash", "elm", "oak", "ash", "ash")
        self.assertEqual(told, [("ash", "oak"), ("oak", "ash"), ("oak", "elm")])
        self.assertEqual({type(pair) for pair in told}, {tuple})
        told.clear()
        self.assertEqual(len(trials_to_ask(record, "oak", "ash", "oak")), 2)

    def test_refused_pairs_are_not_asked(self):
        record = Record(*THREE)
        record.note("refuses", "ash", "oak")
        self.assertEqual((standing(record, "oak", "ash", "elm")), "falls")
        self.assertEqual(trials_to_ask(record, "oak", "ash", "elm"), [("elm", "ash")])

    def test_unknown_makes(self):
        record = Record(*THREE)
        record.note("refuses", "ash", "oak")
        for tell in (standing, trials_to_ask):
            check_raises(self, UnknownMake, {"name": "fir"}, tell, record, "fir")
            check_raises(self, UnknownMake, {"name": ""}, tell, record, "")
            check_raises(self, UnknownMake, {"name": "fir"}, tell, record, "fir", "yew", "oak")
            check_raises(self, UnknownMake, {"name": "yew"}, tell, record, "oak", "ash", "yew", "fir")
            check_raises(self, UnknownMake, {"name": "oak"}, tell, Record(), "oak", "ash")

    def test_a_full_record_of_twelve_makes(self):
        record = Record(*WOODS)
        for lower, upper in zip(WOODS, WOODS[1:]):
            record.note("sits", upper, lower)
        for _ in range(49):
            record.note("refuses", "oak", "pear")
        self.assertEqual(record.trial_count, 60)
        self.assertEqual(standing(record, *WOODS), "stands")
        self.assertEqual(standing(record, "pear", "oak"), "falls")
        self.assertEqual(standing(record, *WOODS[:4], "oak"), "open")
        self.assertEqual(standing(record, *WOODS, *WOODS), "falls")
        self.assertEqual(trials_to_ask(record, "oak", "elm", "ash", "pear", "ash"), [("ash", "elm"), ("ash", "pear")])


class Granting(unittest.TestCase):
    """Point 45: grant."""

    def check(self, record, makes, sets, judge, wishes, seen):
        before = state(record)
        orders = admissible(sets, record.trials())
        if can_stand(orders, wishes):
            common = frozenset.intersection(*orders)
            pairs = closure(makes, common | {pair for wish in wishes for pair in wish_pairs(wish)})
            self.assertEqual(grant(record, wishes), Order(makes, sorted(pairs)))
            self.assertIn(frozenset(pairs), orders)
            seen["granted"] += 1
        else:
            with self.assertRaises(CannotGrant) as caught:
                grant(record, wishes)
            error = caught.exception
            self.assertEqual(error.indexes, plain_left(orders, wishes))
            wanted = [("sits", *pair) for index in error.indexes for pair in wish_pairs(wishes[index])]
            check_conflict(self, judge, record.trials(), wanted, error.numbers)
            seen["refused"] += 1
        self.assertEqual(state(record), before)

    def test_three_makes(self):
        source = random.Random(46)
        seen = {"granted": 0, "refused": 0}
        for record in every_setting():
            for many in (1, 2, 3, 4):
                self.check(record, THREE, SETS, JUDGE, some_wishes(source, THREE, many, 3), seen)
        self.assertGreater(min(seen.values()), 100, seen)

    def test_many_and_long_wishes(self):
        source = random.Random(47)
        seen = {"granted": 0, "refused": 0}
        for record in random_records(80, THREE, 9, 4700):
            self.check(record, THREE, SETS, JUDGE, some_wishes(source, THREE, 12, 2), seen)
            self.check(record, THREE, SETS, JUDGE, some_wishes(source, THREE, 3, 7), seen)
        self.assertGreater(min(seen.values()), 10, seen)

    def test_four_makes(self):
        source = random.Random(48)
        four = WOODS[:4]
        sets, judge = every_order(four), Judge(four)
        seen = {"granted": 0, "refused": 0}
        for record in random_records(40, four, 7, 4800):
            for many in (2, 4, 6):
                self.check(record, four, sets, judge, some_wishes(source, four, many, 3), seen)
        self.assertGreater(min(seen.values()), 20, seen)

    def test_no_wishes(self):
        record = Record(*THREE)
        record.note("sits", "ash", "oak")
        self.assertEqual(grant(record, []), least(record))
        self.assertEqual(grant(record, [[], ["elm"], ["oak", "ash"]]), least(record))
        self.assertEqual(grant(Record(), []), Order([]))

    def test_more_than_eight_wishes(self):
        record = Record(*WOODS)
        wishes = [[lower, upper] for lower, upper in zip(WOODS, WOODS[1:])]
        self.assertEqual(grant(record, wishes), Order(WOODS, list(zip(WOODS[1:], WOODS))))
        record.note("refuses", "pear", "oak")
        check_raises(self, CannotGrant, {"indexes": list(range(11)), "numbers": [1]}, grant, record, wishes)
        check_raises(self, CannotGrant, {"indexes": [11], "numbers": [1]}, grant, record, [*wishes, WOODS])
        indexes = list(range(1, 12))
        check_raises(
            self, CannotGrant, {"indexes": indexes, "numbers": [1]}, grant, record, [["oak", "ash"], *wishes]
        )

    def test_very_many_wishes(self):
        record = Record(*WOODS)
        record.note("refuses", "elm", "oak")
        wishes = [["oak", "ash"], ["ash", "elm"]] * 1000
        check_raises(self, CannotGrant, {"indexes": [1998, 1999], "numbers": [1]}, grant, record, wishes)
        self.assertEqual(len(grant(record, [["oak", "ash"]] * 2000)), 1)

    def test_the_first_ones_are_taken_out(self):
        record = Record(*THREE)
        record.note("refuses", "elm", "oak")
        for wishes, indexes in (
            ([["oak", "elm"], ["oak", "ash"], ["oak", "elm"]], [2]),
            ([["oak", "elm"], ["oak", "ash"], ["ash", "elm"]], [1, 2]),
            ([["oak", "ash"], ["ash", "elm"], ["oak", "elm"]], [2]),
            ([["oak", "ash"], [], ["ash", "oak"], ["ash", "elm"]], [0, 3]),
            ([["oak", "ash", "elm"], ["ash"]], [0]),
        ):
            check_raises(self, CannotGrant, {"indexes": indexes, "numbers": [1]}, grant, record, wishes)

    def test_the_numbers_are_those_of_the_wishes_that_are_left(self):
        record = Record(*THREE, "fir")
        record.note("refuses", "ash", "oak")
        record.note("sits", "elm", "ash")
        record.note("refuses", "elm", "fir")
        record.retract(1)
        record.note("refuses", "elm", "oak")
        check_raises(self, CannotGrant, {"indexes": [0], "numbers": [2, 4]}, grant, record, [["oak", "ash"]])
        check_raises(
            self, CannotGrant, {"indexes": [1], "numbers": [2, 3]}, grant, record, [["oak", "ash"], ["fir", "ash"]]
        )

    def test_a_full_record(self):
        record = Record(*THREE)
        for _ in range(59):
            record.note("sits", "ash", "oak")
        record.note("refuses", "elm", "oak")
        self.assertEqual(grant(record, [["oak", "ash"]]), least(record))
        error = check_raises(self, CannotGrant, {"indexes": [0]}, grant, record, [["ash", "elm"]])
        self.assertEqual((len(error.numbers), error.numbers[1]), (2, 60))

    def test_unknown_makes(self):
        record = Record(*THREE)
        record.note("refuses", "ash", "oak")
        for wishes, name in (
            ([["fir"]], "fir"),
            ([["oak", "ash"], ["fir", "yew"], ["bay"]], "fir"),
            ([["oak", "ash"], ["elm", "yew"], ["fir", "bay"]], "yew"),
            ([[], ["oak", ""], ["fir"]], ""),
            ([["oak"]] * 20 + [["elm", "oak", "fir"]], "fir"),
        ):
            check_raises(self, UnknownMake, {"name": name}, grant, record, wishes)

    def test_wishes_may_be_tuples_and_stay_as_they_are(self):
        record = Record(*THREE)
        record.note("refuses", "elm", "oak")
        wishes = [("oak", "ash"), ["ash", "oak"]]
        self.assertEqual(grant(record, wishes).pairs(), [("oak", "ash"), ("ash", "oak")])
        self.assertEqual(grant(record, tuple(wishes)), grant(record, wishes))
        wishes.append(("ash", "elm"))
        check_raises(self, CannotGrant, {"indexes": [0, 2], "numbers": [1]}, grant, record, wishes)
        self.assertEqual(wishes, [("oak", "ash"), ["ash", "oak"], ("ash", "elm")])


class Most(unittest.TestCase):
    """Point 45: most_granted."""

    def check(self, record, sets, wishes):
        before = state(record)
        orders = admissible(sets, record.trials())
        self.assertEqual(most_granted(record, wishes), plain_most(orders, wishes))
        self.assertEqual(state(record), before)

    def test_three_makes(self):
        source = random.Random(49)
        for record in every_setting():
            for many in (1, 2, 4, 5):
                self.check(record, SETS, some_wishes(source, THREE, many, 3))

    def test_eight_wishes(self):
        source = random.Random(50)
        four = WOODS[:4]
        sets = every_order(four)
        for record in random_records(12, four, 7, 5000):
            self.check(record, sets, some_wishes(source, four, 8, 3))
        for record in random_records(30, THREE, 7, 5100):
            self.check(record, SETS, some_wishes(source, THREE, 8, 3))

    def test_no_wishes(self):
        self.assertEqual((most_granted(Record(*THREE), []), most_granted(Record(), [])), ([], []))
        self.assertEqual(most_granted(Record(*THREE), [[], ["oak"], ["ash", "ash"]]), [0, 1, 2])

    def test_the_first_of_equally_long_lists(self):
        record = Record(*THREE)
        record.note("refuses", "elm", "oak")
        for wishes, indexes in (
            ([["oak", "ash"], ["ash", "elm"]], [0]),
            ([["oak", "elm"], ["ash", "elm"], ["oak", "ash"]], [1]),
            ([["ash", "elm"], ["oak", "ash"], ["ash", "oak"]], [0, 2]),
            ([["oak", "ash"], ["ash", "elm"], ["ash", "elm"], ["elm", "ash"]], [1, 2, 3]),
            ([["oak", "ash"], ["ash", "elm"], ["oak", "ash"], ["ash", "elm"]], [0, 2]),
            ([["oak", "elm"], ["oak", "ash", "elm"]], []),
        ):
            self.assertEqual(most_granted(record, wishes), indexes)

    def test_eight_and_nine(self):
        record = Record(*THREE)
        self.assertEqual(most_granted(record, [["oak", "ash"]] * 8), list(range(8)))
        check_raises(self, Full, {"most": 8}, most_granted, record, [["oak", "ash"]] * 9)
        check_raises(self, Full, {"most": 8}, most_granted, record, [["fir"]] * 9)
        check_raises(self, Full, {"most": 8}, most_granted, Record(), [[]] * 9)
        check_raises(self, UnknownMake, {"name": "fir"}, most_granted, record, [["fir"]] * 8)

    def test_unknown_makes(self):
        record = Record(*THREE)
        for wishes, name in (
            ([["fir", "yew"]], "fir"),
            ([["oak", "ash"], ["elm", "yew"], ["fir", "bay"]], "yew"),
            ([["oak"], [], ["oak", "ash", ""]], ""),
        ):
            check_raises(self, UnknownMake, {"name": name}, most_granted, record, wishes)

    def test_new_lists(self):
        record = Record(*THREE)
        wishes = [["oak", "ash"], ("ash", "elm")]
        most_granted(record, wishes).clear()
        self.assertEqual(most_granted(record, tuple(wishes)), [0, 1])
        self.assertEqual(wishes, [["oak", "ash"], ("ash", "elm")])


if __name__ == "__main__":
    unittest.main()
