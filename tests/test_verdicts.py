"""Points 2 and 20 to 25: verdicts over all admissible orders."""

import unittest
from itertools import islice

from caught import check_raises
from chairstack.errors import NoGreatest, UnknownMake
from chairstack.orders import Order
from chairstack.records import Record
from chairstack.verdicts import alike, all_orders, greatest, grown, least, open_pairs, possible_pairs, verdict
from plain import WOODS, admissible, closure, different, every_order, pairs_in_order, plain_verdict
from test_records import noted, random_records, settings_of_three

THREE = ["oak", "ash", "elm"]
SETS = every_order(THREE)


def plain_greatest(makes, orders):
    """The pairs of the greatest order, or the triple that NoGreatest names."""
    possible = set().union(*orders)
    for first in makes:
        for middle in makes:
            for last in makes:
                if (first, middle) in possible and (middle, last) in possible and (first, last) not in possible:
                    return None, (first, middle, last)
    return possible, None


def plain_grown(makes, orders, pairs):
    current = set.intersection(*map(set, orders))
    for pair in [*pairs, *pairs_in_order(makes)]:
        more = closure(makes, current | {pair})
        if frozenset(more) in orders:
            current = more
    return current


class Against(unittest.TestCase):
    """Each answer held against all sets of pairs of three makes that are orders."""

    def records(self):
        """Records with all settings of trials, and some with repeated and retracted ones."""
        for trials in settings_of_three():
            record = noted(trials, THREE)
            if record.trial_count == len(trials):
                yield record
        yield from random_records(30, THREE, 12, 900)

    def test_verdict(self):
        for record in self.records():
            self.check_verdict(record, THREE, SETS)

    def test_least_possible_and_open(self):
        for record in self.records():
            self.check_least(record, THREE, SETS)

    def test_greatest(self):
        for record in self.records():
            self.check_greatest(record, THREE, SETS)

    def test_grown(self):
        for record in list(self.records())[::5]:
            for first in pairs_in_order(THREE):
                for second in [*pairs_in_order(THREE), ("oak", "oak"), first]:
                    self.check_grown(record, THREE, SETS, [first, second])
        for record in self.records():
            self.check_grown(record, THREE, SETS, [])

    def test_all_orders(self):
        for record in self.records():
            self.check_all_orders(record, THREE, SETS)

    def test_alike(self):
        for record in self.records():
            self.check_alike(record, THREE, SETS)

    def test_after_retractions(self):
        for record in random_records(25, THREE, 9, 1200):
            while record.trial_count:
                record.retract(record.trials()[record.trial_count // 2][0])
                self.check_everything(record, THREE, SETS)

    def test_four_makes_and_an_added_one(self):
        four = WOODS[:4]
        sets = every_order(four)
        for record in random_records(12, THREE, 6, 1500):
            self.check_everything(record, THREE, SETS)
            record.add_make("fir")
            self.check_everything(record, four, sets)
            record.note("sits", "fir", "oak")
            self.check_everything(record, four, sets)
        for record in random_records(25, four, 7, 1600):
            self.check_everything(record, four, sets)

    def check_everything(self, record, makes, sets):
        self.check_verdict(record, makes, sets)
        self.check_least(record, makes, sets)
        self.check_greatest(record, makes, sets)
        self.check_grown(record, makes, sets, [])
        self.check_grown(record, makes, sets, pairs_in_order(makes)[::-2])
        self.check_all_orders(record, makes, sets)
        self.check_alike(record, makes, sets)

    def check_verdict(self, record, makes, sets):
        orders = admissible(sets, record.trials())
        for upper in makes:
            for lower in makes:
                for _ in range(2):
                    self.assertEqual(verdict(record, upper, lower), plain_verdict(orders, (upper, lower)))

    def check_least(self, record, makes, sets):
        orders = admissible(sets, record.trials())
        common, possible = frozenset.intersection(*orders), frozenset.union(*orders)
        self.assertEqual(least(record), Order(makes, sorted(common)))
        self.assertIn(common, orders)
        self.assertEqual(possible_pairs(record), different(makes, possible))
        undecided = [pair for pair in pairs_in_order(makes) if plain_verdict(orders, pair) == "open"]
        self.assertEqual(list(open_pairs(record)), undecided)

    def check_greatest(self, record, makes, sets):
        orders = admissible(sets, record.trials())
        pairs, triple = plain_greatest(makes, orders)
        for _ in range(2):
            if triple is None:
                self.assertEqual(greatest(record), Order(makes, sorted(pairs)))
            else:
                names = dict(zip(("first", "middle", "last"), triple))
                check_raises(self, NoGreatest, names, greatest, record)

    def check_grown(self, record, makes, sets, pairs):
        orders = admissible(sets, record.trials())
        order = grown(record, *pairs)
        self.assertEqual(order, Order(makes, sorted(plain_grown(makes, orders, pairs))))
        self.assertIs(record.admits(order), True)
        self.assertEqual([other for other in orders if other > closure(makes, order.pairs())], [])

    def check_all_orders(self, record, makes, sets):
        orders = admissible(sets, record.trials())
        found = list(all_orders(record))
        self.assertEqual([order.pairs() for order in found], [different(makes, order) for order in orders])
        self.assertEqual({order.makes for order in found}, {tuple(makes)})

    def check_alike(self, record, makes, sets):
        orders = admissible(sets, record.trials())
        for first in makes:
            for second in makes:
                both = [(first, second) in order and (second, first) in order for order in orders]
                expected = "alike" if all(both) else "open" if any(both) else "unlike"
                for _ in range(2):
                    self.assertEqual(alike(record, first, second), expected)


class Edges(unittest.TestCase):
    def test_no_and_one_make(self):
        empty, single = Record(), Record("oak")
        for record, makes in ((empty, []), (single, ["oak"])):
            self.assertEqual(list(all_orders(record)), [Order(makes)])
            self.assertEqual((least(record), greatest(record), grown(record)), (Order(makes),) * 3)
            self.assertEqual((possible_pairs(record), list(open_pairs(record))), ([], []))
        self.assertEqual((verdict(single, "oak", "oak"), alike(single, "oak", "oak")), ("sits", "alike"))
        self.assertEqual(grown(single, ("oak", "oak")), Order(["oak"]))

    def test_twelve_makes_and_sixty_trials(self):
        record = Record(*WOODS)
        for lower, upper in zip(WOODS, WOODS[1:]):
            record.note("sits", upper, lower)
        for _ in range(49):
            record.note("refuses", "oak", "ash")
        self.assertEqual(record.trial_count, 60)
        self.assertEqual(least(record), Order(WOODS, list(zip(WOODS[1:], WOODS))))
        self.assertEqual(verdict(record, "pear", "oak"), "sits")
        self.assertEqual({verdict(record, "oak", lower) for lower in WOODS[1:]}, {"refuses"})
        self.assertEqual(greatest(record), grown(record))
        self.assertEqual(alike(record, "oak", "pear"), "unlike")
        self.assertEqual(alike(record, "ash", "pear"), "open")

    def test_makes_are_unlike_if_one_of_the_two_pairs_is_refused(self):
        record = Record("oak", "ash", "elm", "fir")
        record.note("refuses", "elm", "fir")
        record.note("sits", "elm", "oak")
        record.note("sits", "ash", "fir")
        self.assertEqual((verdict(record, "ash", "oak"), verdict(record, "oak", "ash")), ("open", "refuses"))
        self.assertEqual((alike(record, "ash", "oak"), alike(record, "oak", "ash")), ("unlike", "unlike"))

    def test_a_full_record_is_answered(self):
        record = Record(*THREE)
        for _ in range(60):
            record.note("sits", "ash", "oak")
        self.assertEqual(verdict(record, "oak", "ash"), "open")
        self.assertEqual(len(list(all_orders(record))), len([one for one in SETS if ("ash", "oak") in one]))


class WrongMakes(unittest.TestCase):
    """The errors of points 20, 23 and 25."""

    def test_verdict(self):
        record = Record(*THREE)
        check_raises(self, UnknownMake, {"name": "fir"}, verdict, record, "fir", "yew")
        check_raises(self, UnknownMake, {"name": "yew"}, verdict, record, "oak", "yew")
        check_raises(self, UnknownMake, {"name": "fir"}, verdict, record, "fir", "oak")
        check_raises(self, UnknownMake, {"name": "fir"}, verdict, record, "fir", "fir")

    def test_alike(self):
        record = Record(*THREE)
        check_raises(self, UnknownMake, {"name": "fir"}, alike, record, "fir", "yew")
        check_raises(self, UnknownMake, {"name": "yew"}, alike, record, "oak", "yew")
        check_raises(self, UnknownMake, {"name": "fir"}, alike, record, "fir", "fir")

    def test_grown(self):
        record = Record(*THREE)
        check_raises(self, UnknownMake, {"name": "fir"}, grown, record, ("ash", "oak"), ("fir", "yew"), ("bay", "oak"))
        check_raises(self, UnknownMake, {"name": "yew"}, grown, record, ("oak", "yew"), ("fir", "oak"))

    def test_an_added_make_is_known(self):
        record = Record(*THREE)
        check_raises(self, UnknownMake, {"name": "fir"}, verdict, record, "fir", "oak")
        record.add_make("fir")
        self.assertEqual((verdict(record, "fir", "oak"), alike(record, "oak", "fir")), ("open", "open"))

    def test_errors_change_nothing(self):
        record = Record(*THREE)
        record.note("refuses", "elm", "oak")
        check_raises(self, NoGreatest, {"first": "elm", "middle": "ash", "last": "oak"}, greatest, record)
        check_raises(self, UnknownMake, {"name": "x"}, grown, record, ("x", "oak"))
        self.assertEqual((record.trials(), record.makes), ([(1, "refuses", "elm", "oak")], tuple(THREE)))


class Generators(unittest.TestCase):
    """Points 2 and 24."""

    def test_a_caller_stops_early(self):
        seven = WOODS[:7]
        record = Record(*seven)
        record.note("sits", "ash", "oak")
        record.note("refuses", "elm", "oak")
        found = list(islice(all_orders(record), 500))
        self.assertEqual(found[0], least(record))
        self.assertEqual([order.pairs() for order in found[:3]], [
            [("ash", "oak")],
            [("ash", "oak"), (seven[6], seven[5])],
            [("ash", "oak"), (seven[6], seven[4])],
        ])
        places = pairs_in_order(seven)
        keys = [[pair in order for pair in places] for order in found]
        self.assertTrue(all(one < two for one, two in zip(keys, keys[1:])))
        self.assertTrue(all(record.admits(order) for order in found))

    def test_the_first_orders_of_twelve_makes(self):
        self.assertEqual([len(order) for order in islice(all_orders(Record(*WOODS)), 2)], [0, 1])

    def test_numbers_of_orders(self):
        self.assertEqual([sum(1 for _ in all_orders(Record(*WOODS[:count]))) for count in range(6)],
                         [1, 1, 4, 29, 355, 6942])

    def test_two_generators_in_turn(self):
        record = Record(*THREE)
        record.note("sits", "ash", "oak")
        other = Record(*THREE)
        orders, pairs = list(all_orders(record)), list(open_pairs(record))
        first, second, third = all_orders(record), all_orders(record), all_orders(other)
        next(first)
        for at, order in enumerate(second):
            next(third)
            self.assertEqual((order, next(first, None)), (orders[at], (orders + [None])[at + 1]))
        one, two = open_pairs(record), open_pairs(record)
        next(one)
        self.assertEqual([(pair, next(one, None)) for pair in two], list(zip(pairs, pairs[1:] + [None])))

    def test_returned_values_are_new(self):
        record = Record(*THREE)
        expected = possible_pairs(record)
        possible_pairs(record).clear()
        self.assertEqual(possible_pairs(record), expected)
        self.assertEqual({type(pair) for pair in expected} | {type(pair) for pair in open_pairs(record)}, {tuple})

    def test_answers_do_not_follow_the_record(self):
        record = Record(*THREE)
        bare, everything = least(record), greatest(record)
        record.note("sits", "ash", "oak")
        record.note("refuses", "oak", "ash")
        record.add_make("fir")
        self.assertEqual((bare, everything), (Order.bare(THREE), Order.full(THREE)))

    def test_looking_changes_nothing(self):
        record = Record(*THREE)
        record.note("refuses", "elm", "oak")
        kept = record.trials()
        grown(record, ("elm", "ash"))
        list(all_orders(record))
        list(open_pairs(record))
        possible_pairs(record)
        self.assertEqual((record.trials(), record.note("sits", "ash", "oak")), (kept, 2))


if __name__ == "__main__":
    unittest.main()
