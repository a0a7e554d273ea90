"""Points 2 to 10 and the interface of chairstack/orders.py."""

import random
import unittest

from caught import check_raises
from chairstack.errors import DuplicateMake, Full, InvalidName, UnknownMake, UnlikeMakes
from chairstack.orders import Order
from plain import WOODS, closure, different, every_order, pairs_in_order

THREE = ["oak", "ash", "elm"]


def sample(count, seed, most=None):
    """Lists of pairs over so many makes, from none to many, the same ones in each run."""
    source = random.Random(seed)
    makes = WOODS[:count]
    chosen = [[]]
    for _ in range(40):
        size = int(source.random() * (1 + (most or 2 * count)))
        chosen.append([(makes[int(source.random() * count)], makes[int(source.random() * count)]) for _ in range(size)])
    return makes, chosen


def all_samples():
    for count in range(1, 8):
        makes, chosen = sample(count, count)
        for pairs in chosen:
            yield makes, pairs


class Making(unittest.TestCase):
    """Points 3, 5 and 6."""

    def test_names(self):
        for name in ("a", "z", "oak", "abcdefghijkl", "zzzzzzzzzzzz"):
            self.assertEqual(Order([name]).makes, (name,))
        for name in ("", "abcdefghijklm", "Oak", "oaK", "oak1", "o k", " oak", "oak ", "o-k", "`", "{", "7", "OAK", "\u00f6l"):
            for make in (Order, Order.bare, Order.full):
                check_raises(self, InvalidName, {"name": name}, make, ["ash", name])

    def test_numbers_of_makes(self):
        self.assertEqual(Order.MOST, 12)
        for count in (0, 1, 12):
            makes = WOODS[:count]
            self.assertEqual(Order(makes).makes, tuple(makes))
            self.assertEqual(Order.bare(makes).pairs(), [])
            self.assertEqual(Order.full(makes).pairs(), pairs_in_order(makes))
            self.assertEqual(len(Order.full(makes)), count * (count - 1))
        for make in (Order, Order.bare, Order.full):
            check_raises(self, Full, {"most": 12}, make, [*WOODS, "rowan"])

    def test_full_comes_before_bad_names_and_pairs(self):
        makes = ["Oak", "Oak"] + WOODS[:11]
        for make in (Order, Order.bare, Order.full):
            check_raises(self, Full, {"most": 12}, make, makes)
        check_raises(self, Full, {"most": 12}, Order, makes, [("x", "y")])

    def test_makes_are_checked_from_left_to_right(self):
        for make in (Order, Order.bare, Order.full):
            check_raises(self, DuplicateMake, {"name": "oak"}, make, ["oak", "ash", "oak", "Elm"])
            check_raises(self, InvalidName, {"name": "Elm"}, make, ["oak", "Elm", "oak"])
            check_raises(self, InvalidName, {"name": "Elm"}, make, ["Elm", "Elm"])

    def test_makes_come_before_pairs(self):
        check_raises(self, InvalidName, {"name": "Elm"}, Order, ["Elm"], [("fir", "fir")])
        check_raises(self, DuplicateMake, {"name": "elm"}, Order, ["elm", "elm"], [("fir", "fir")])

    def test_pairs_are_checked_from_left_to_right(self):
        check_raises(self, UnknownMake, {"name": "fir"}, Order, THREE, [("oak", "fir"), ("yew", "oak")])
        check_raises(self, UnknownMake, {"name": "yew"}, Order, THREE, [("oak", "ash"), ("yew", "fir")])
        check_raises(self, UnknownMake, {"name": ""}, Order, [], [("", "fir")])

    def test_smallest_order_against_plain_closure(self):
        for makes, pairs in all_samples():
            order = Order(makes, pairs)
            closed = closure(makes, pairs)
            for _ in range(2):
                self.assertEqual(order.pairs(), different(makes, closed))
            for upper in makes:
                for lower in makes:
                    self.assertIs(order.sits(upper, lower), (upper, lower) in closed)

    def test_all_orders_of_three_makes(self):
        for pairs in every_order(THREE):
            self.assertEqual(Order(THREE, sorted(pairs)).pairs(), different(THREE, pairs))

    def test_lists_and_tuples(self):
        self.assertEqual(Order(("oak", "ash"), (("ash", "oak"),)), Order(["oak", "ash"], [("ash", "oak")]))

    def test_bare_and_full(self):
        for count in range(8):
            makes = WOODS[:count]
            self.assertEqual(Order.bare(makes), Order(makes))
            self.assertEqual(Order.full(makes), Order(makes, [(a, b) for a in makes for b in makes]))


class Looking(unittest.TestCase):
    """Point 7."""

    def test_sits_checks_the_upper_make_first(self):
        order = Order(THREE, [("ash", "oak")])
        check_raises(self, UnknownMake, {"name": "fir"}, order.sits, "fir", "yew")
        check_raises(self, UnknownMake, {"name": "yew"}, order.sits, "oak", "yew")
        check_raises(self, UnknownMake, {"name": ""}, order.sits, "", "oak")

    def test_in(self):
        for makes, pairs in all_samples():
            order = Order(makes, pairs)
            closed = closure(makes, pairs)
            for upper in [*makes, "rowan", ""]:
                for lower in [*makes, "rowan", ""]:
                    for _ in range(2):
                        self.assertIs((upper, lower) in order, (upper, lower) in closed)
                        self.assertIs((upper, lower) not in order, (upper, lower) not in closed)

    def test_len(self):
        for makes, pairs in all_samples():
            order = Order(makes, pairs)
            expected = len(closure(makes, pairs)) - len(makes)
            self.assertEqual((len(order), len(order)), (expected, expected))

    def test_pairs_stand_in_the_order_of_pairs(self):
        order = Order(["elm", "ash", "oak"], [("oak", "elm"), ("ash", "elm"), ("elm", "ash")])
        self.assertEqual(order.pairs(), [("elm", "ash"), ("ash", "elm"), ("oak", "elm"), ("oak", "ash")])


class Operators(unittest.TestCase):
    """Point 8."""

    def test_against_plain_closure(self):
        for count in range(1, 8):
            makes, chosen = sample(count, 100 + count, most=count + 2)
            for first, second in zip(chosen, chosen[1:] + chosen[:1]):
                self.check_two(makes, first, second)

    def check_two(self, makes, first, second):
        a, b = Order(makes, first), Order(makes, second)
        one, two = closure(makes, first), closure(makes, second)
        for _ in range(2):
            self.assertIs(a == b, one == two)
            self.assertIs(a != b, one != two)
            self.assertIs(a.part_of(b), one <= two)
            self.assertIs(b.part_of(a), two <= one)
            self.assertEqual((a & b).pairs(), different(makes, one & two))
            self.assertEqual((a | b).pairs(), different(makes, closure(makes, one | two)))
            self.assertEqual(((a | b).makes, (a & b).makes), (tuple(makes), tuple(makes)))
            self.assertIsInstance(a & b, Order)
            self.assertIsInstance(a | b, Order)
        self.assertEqual((a.pairs(), b.pairs()), (different(makes, one), different(makes, two)))

    def test_equal_orders_from_unlike_pairs(self):
        a = Order(THREE, [("elm", "ash"), ("ash", "oak")])
        b = Order(tuple(THREE), [("ash", "oak"), ("elm", "oak"), ("elm", "ash"), ("oak", "oak")])
        self.assertIs(a == b, True)
        self.assertIs(a != b, False)

    def test_unlike_makes(self):
        a = Order(THREE, [("ash", "oak")])
        unlike = (["ash", "oak", "elm"], ["oak", "ash"], ["oak", "ash", "elm", "fir"], ["oak", "ash", "fir"], [])
        for makes in unlike:
            b = Order(makes)
            for _ in range(2):
                self.assertIs(a == b, False)
                self.assertIs(a != b, True)
                self.assertIs(b == a, False)
                for left, right in ((a, b), (b, a)):
                    check_raises(self, UnlikeMakes, {}, lambda: left & right)
                    check_raises(self, UnlikeMakes, {}, lambda: left | right)
                    check_raises(self, UnlikeMakes, {}, left.part_of, right)
        self.assertEqual(a.pairs(), [("ash", "oak")])

    def test_same_pairs_over_unlike_makes(self):
        for pairs in ([], [("ash", "oak")], [("ash", "oak"), ("oak", "ash")]):
            a, b = Order(["oak", "ash"], pairs), Order(["ash", "oak"], pairs)
            self.assertEqual(sorted(a.pairs()), sorted(b.pairs()))
            self.assertIs(a == b, False)
            self.assertIs(a != b, True)

    def test_other_values_are_not_equal(self):
        order = Order(THREE)
        for other in (None, 3, "oak", [], THREE, order.pairs()):
            self.assertIs(order == other, False)
            self.assertIs(order != other, True)

    def test_results_share_nothing(self):
        a, b = Order(THREE, [("ash", "oak")]), Order(THREE, [("elm", "ash")])
        joined = a | b
        joined.pairs().clear()
        self.assertEqual((len(a | b), len(a), len(b)), (3, 1, 1))


class Groups(unittest.TestCase):
    """Point 9."""

    def test_against_the_words_of_the_document(self):
        for makes, pairs in all_samples():
            order = Order(makes, pairs)
            closed = closure(makes, pairs)
            for _ in range(2):
                groups = order.groups()
                self.assertEqual(sorted(make for group in groups for make in group), sorted(makes))
                for group in groups:
                    self.assertEqual(group, sorted(group, key=makes.index))
                self.assertEqual(groups, sorted(groups, key=lambda group: makes.index(group[0])))
                home = {make: at for at, group in enumerate(groups) for make in group}
                for a in makes:
                    for b in makes:
                        self.assertEqual(home[a] == home[b], (a, b) in closed and (b, a) in closed)

    def test_edges(self):
        self.assertEqual(Order([]).groups(), [])
        self.assertEqual(Order(["oak"]).groups(), [["oak"]])
        self.assertEqual(Order.full(WOODS).groups(), [WOODS])
        self.assertEqual(Order.bare(WOODS).groups(), [[make] for make in WOODS])


class LowestFirst(unittest.TestCase):
    """Point 10."""

    def expected(self, makes, pairs):
        closed = closure(makes, pairs)
        left, sequence = list(makes), []
        while left:
            for make in left:
                if not any((make, other) in closed and (other, make) not in closed for other in left):
                    sequence.append(make)
                    left.remove(make)
                    break
        return sequence

    def test_against_the_words_of_the_document(self):
        for makes, pairs in all_samples():
            order = Order(makes, pairs)
            for _ in range(2):
                self.assertEqual(list(order.lowest_first()), self.expected(makes, pairs))

    def test_after_each_make_the_smallest_index_counts_again(self):
        order = Order(["oak", "ash", "elm", "fir"], [("oak", "ash")])
        self.assertEqual(list(order.lowest_first()), ["ash", "oak", "elm", "fir"])

    def test_alike_makes_do_not_wait_for_each_other(self):
        order = Order(["oak", "ash", "elm", "fir"], [("oak", "elm"), ("elm", "fir"), ("fir", "elm")])
        self.assertEqual(list(order.lowest_first()), ["ash", "elm", "fir", "oak"])

    def test_two_generators_in_turn(self):
        order = Order(WOODS[:5], [("oak", "yew"), ("ash", "fir"), ("fir", "elm")])
        expected = self.expected(WOODS[:5], order.pairs())
        first, second, seen = order.lowest_first(), order.lowest_first(), []
        self.assertEqual(next(first), expected[0])
        for make in second:
            seen.append((make, next(first, None)))
        self.assertEqual(seen, list(zip(expected, expected[1:] + [None])))

    def test_edges(self):
        self.assertEqual(list(Order([]).lowest_first()), [])
        self.assertEqual(list(Order.full(WOODS).lowest_first()), WOODS)
        self.assertEqual(list(Order.bare(WOODS).lowest_first()), WOODS)
        chain = Order(WOODS, list(zip(WOODS, WOODS[1:])))
        self.assertEqual(list(chain.lowest_first()), WOODS[::-1])


class NothingIsShared(unittest.TestCase):
    """Point 2."""

    def test_arguments_are_copied_and_not_modified(self):
        makes, pairs = list(THREE), [("ash", "oak"), ("elm", "ash")]
        orders = [Order(makes, pairs), Order.bare(makes), Order.full(makes)]
        self.assertEqual((makes, pairs), (THREE, [("ash", "oak"), ("elm", "ash")]))
        before = [(order.makes, order.pairs()) for order in orders]
        makes.append("fir")
        makes[0] = "yew"
        pairs.clear()
        self.assertEqual([(order.makes, order.pairs()) for order in orders], before)

    def test_returned_lists_are_new(self):
        order = Order(THREE, [("ash", "oak"), ("oak", "ash")])
        order.pairs().append("more")
        groups = order.groups()
        groups[0].append("more")
        groups.clear()
        self.assertEqual(order.pairs(), [("oak", "ash"), ("ash", "oak")])
        self.assertEqual(order.groups(), [["oak", "ash"], ["elm"]])
        self.assertIsInstance(order.makes, tuple)


if __name__ == "__main__":
    unittest.main()
