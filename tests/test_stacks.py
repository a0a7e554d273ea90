"""Points 2 and 32 to 34: stacks of chairs."""

import random
import unittest
from itertools import combinations, permutations, product

from caught import check_raises
from chairstack.errors import InvalidNumber, UnknownMake
from chairstack.orders import Order
from chairstack.records import Record
from chairstack.stacks import check_stacks, check_tallest, cut_stacks, fewest_stacks, tallest_stack
from chairstack.verdicts import all_orders, least
from plain import WOODS, every_order

THREE = ["oak", "ash", "elm"]
SETS = [set(pairs) for pairs in every_order(THREE)]


def on(pairs, chairs, upper, lower):
    return (chairs[upper], chairs[lower]) in pairs


def stands(pairs, chairs, stack):
    return all(on(pairs, chairs, stack[at], stack[at - 1]) for at in range(1, len(stack)))


def is_correct(pairs, chairs, stacks, spread):
    """Point 32, word by word. That no smaller number is possible follows from the spread."""
    indexes = list(range(len(chairs)))
    return (
        sorted(chair for stack in stacks for chair in stack) == indexes
        and [] not in stacks
        and all(stands(pairs, chairs, stack) for stack in stacks)
        and spread == sorted(set(spread))
        and set(spread) <= set(indexes)
        and len(spread) == len(stacks)
        and not any(on(pairs, chairs, one, two) for one, two in permutations(spread, 2))
    )


def ranks(pairs, chairs, upper, lower):
    """Point 33, word by word."""
    return on(pairs, chairs, upper, lower) and (not on(pairs, chairs, lower, upper) or upper > lower)


def plain_levels(pairs, chairs, heights):
    known = {}

    def level(chair):
        if chair not in known:
            below = [level(other) for other in range(len(chairs)) if ranks(pairs, chairs, chair, other)]
            known[chair] = heights[chairs[chair]] + (max(below) if below else 0)
        return known[chair]

    return [level(chair) for chair in range(len(chairs))]


def plain_tallest(pairs, chairs, heights):
    """The greatest height over all stacks: a set of chairs is a stack in some sequence if each two are comparable."""
    best = 0
    for size in range(len(chairs) + 1):
        for chosen in combinations(range(len(chairs)), size):
            if all(on(pairs, chairs, a, b) or on(pairs, chairs, b, a) for a, b in combinations(chosen, 2)):
                best = max(best, sum(heights[chairs[chair]] for chair in chosen))
    return best


def is_tallest(pairs, chairs, heights, height, stack, levels):
    """Point 34, word by word."""
    indexes = range(len(chairs))
    own = [heights[make] for make in chairs]
    return (
        all(chair in indexes for chair in stack)
        and len(set(stack)) == len(stack)
        and stands(pairs, chairs, stack)
        and sum(own[chair] for chair in stack) == height
        and len(levels) == len(chairs)
        and all(own[chair] <= levels[chair] <= height for chair in indexes)
        and all(levels[i] >= levels[j] + own[i] for i in indexes for j in indexes if ranks(pairs, chairs, i, j))
    )


def random_order(source, makes, count):
    return Order(makes, [(source.choice(makes), source.choice(makes)) for _ in range(count)])


def pairs_of(order):
    return set(order.pairs()) | {(make, make) for make in order.makes}


def changed_list(source, numbers):
    """The list with one small change."""
    numbers = list(numbers)
    at = source.randrange(len(numbers) + 1)
    value = source.choice((-1, 0, 1, 2, len(numbers), 10 ** 20))
    kind = source.randrange(4)
    if kind == 0 or at == len(numbers):
        numbers.insert(at, value)
    elif kind == 1:
        del numbers[at]
    elif kind == 2:
        numbers[at] = source.choice((numbers[at] - 1, numbers[at] + 1, -1 - at, value))
    else:
        numbers.insert(0, numbers.pop(at))
    return numbers


class Fewest(unittest.TestCase):
    """Point 32: fewest_stacks."""

    def check(self, order, chairs):
        pairs, given = pairs_of(order), list(chairs)
        stacks, spread = result = fewest_stacks(order, chairs)
        self.assertEqual((type(result), type(stacks), type(spread)), (tuple, list, list))
        self.assertEqual({type(stack) for stack in stacks} - {list}, set())
        self.assertTrue(is_correct(pairs, chairs, stacks, spread), (order.pairs(), chairs, result))
        self.assertIs(check_stacks(order, chairs, stacks, spread), True)
        self.assertEqual(chairs, given)

    def test_every_order_of_three_makes(self):
        for pairs in SETS:
            order = Order(THREE, sorted(pairs))
            for size in range(5):
                for chairs in product(THREE, repeat=size):
                    self.check(order, list(chairs))

    def test_no_chairs(self):
        for order in (Order([]), Order.bare(THREE), Order.full(THREE)):
            self.assertEqual(fewest_stacks(order, []), ([], []))

    def test_chairs_of_one_make(self):
        for order in (Order.bare(THREE), Order.full(THREE)):
            for count in (1, 2, 60):
                stacks, spread = fewest_stacks(order, ["ash"] * count)
                self.assertEqual((len(stacks), len(spread)), (1, 1))
                self.check(order, ["ash"] * count)

    def test_alike_makes_stand_in_one_stack(self):
        order = Order(THREE, [("oak", "elm"), ("elm", "oak")])
        chairs = ["oak", "elm", "oak", "ash", "elm", "ash"]
        self.assertEqual(len(fewest_stacks(order, chairs)[0]), 2)
        self.check(order, chairs)

    def test_sixty_chairs_of_twelve_makes(self):
        source = random.Random(5)
        for count in (0, 3, 6, 9, 12, 20, 40):
            for _ in range(3):
                order = random_order(source, WOODS, count)
                self.check(order, source.choices(WOODS, k=60))
        self.check(Order.full(WOODS), WOODS * 5)
        self.check(Order.bare(WOODS), WOODS * 5)
        self.check(Order(WOODS, list(zip(WOODS, WOODS[1:]))), WOODS * 5)

    def test_a_greedy_choice_is_not_enough(self):
        # Fir and yew can both stand on oak, but ash takes only yew: yew has to leave oak to fir.
        order = Order(["oak", "ash", "fir", "yew"], [("yew", "oak"), ("fir", "oak"), ("yew", "ash")])
        for chairs in permutations(["oak", "ash", "fir", "yew"]):
            self.assertEqual(len(fewest_stacks(order, list(chairs))[0]), 2)
            self.check(order, list(chairs))

    def test_longer_exchanges(self):
        makes = WOODS[:10]
        lowers, uppers = makes[:5], makes[5:]
        pairs = [(uppers[at], lowers[at]) for at in range(5)] + [(uppers[at], lowers[at + 1]) for at in range(4)]
        order = Order(makes, pairs)
        source = random.Random(8)
        for _ in range(40):
            chairs = source.sample(makes, 10)
            self.assertEqual(len(fewest_stacks(order, chairs)[0]), 5)
            self.check(order, chairs)

    def test_the_stacks_of_the_least_order_stand_in_every_admissible_one(self):
        record = Record("oak", "ash", "elm", "fir")
        record.note("sits", "ash", "oak")
        record.note("sits", "fir", "elm")
        record.note("refuses", "elm", "oak")
        chairs = ["fir", "oak", "ash", "elm", "ash", "fir"]
        stacks, _ = fewest_stacks(least(record), chairs)
        self.assertEqual(len(stacks), 2)
        for order in all_orders(record):
            self.assertTrue(all(stands(pairs_of(order), chairs, stack) for stack in stacks))

    def test_unknown_makes(self):
        order = Order(THREE)
        check_raises(self, UnknownMake, {"name": "fir"}, fewest_stacks, order, ["oak", "fir", "yew", "oak"])
        check_raises(self, UnknownMake, {"name": ""}, fewest_stacks, order, ["", "fir"])
        check_raises(self, UnknownMake, {"name": "oak"}, fewest_stacks, Order([]), ["oak"])


class CheckStacks(unittest.TestCase):
    """Point 32: check_stacks."""

    order = Order(THREE, [("ash", "oak"), ("elm", "oak")])
    chairs = ["oak", "ash", "elm", "ash"]

    def test_by_hand(self):
        for stacks, spread, expected in (
            ([[0, 1, 3], [2]], [1, 2], True),
            ([[2], [0, 1, 3]], [2, 3], True),
            ([[0, 3, 1], [2]], [1, 2], True),
            ([[1, 3], [0, 2]], [1, 2], True),
            ([[0, 1, 3], [2]], [2, 1], False),
            ([[0, 1, 3], [2]], [1, 3], False),
            ([[0, 1, 3], [2]], [0, 2], False),
            ([[0, 1, 3], [2]], [1], False),
            ([[0, 1, 3], [2]], [1, 2, 3], False),
            ([[0, 1, 3], [2]], [1, 1], False),
            ([[0, 1, 3], [2]], [], False),
            ([[0, 1, 3], [2]], [2, 4], False),
            ([[0, 1, 3], [2]], [-2, 1], False),
            ([[0, 1, 3], [2], []], [1, 2], False),
            ([[0, 1, 3], [2], []], [1, 2, 3], False),
            ([[0, 1], [2]], [1, 2], False),
            ([[0, 1, 3], [2, 0]], [1, 2], False),
            ([[0, 1, 1, 3], [2]], [1, 2], False),
            ([[1, 0, 3], [2]], [1, 2], False),
            ([[0, 1, 2, 3]], [1], False),
            ([[0, 1, -1], [2]], [1, 2], False),
            ([[0, 1, 3], [4]], [1, 2], False),
            ([[0, 1, 3], [2], [4]], [1, 2], False),
            ([[0, 1], [3], [2]], [1, 2, 3], False),
            ([[0, 10 ** 30, 1, 3], [2]], [1, 2], False),
            ([], [], False),
        ):
            with self.subTest(stacks=stacks, spread=spread):
                self.assertIs(check_stacks(self.order, self.chairs, stacks, spread), expected)
                self.assertEqual(is_correct(pairs_of(self.order), self.chairs, stacks, spread), expected)

    def test_no_chairs(self):
        order = Order(THREE)
        self.assertIs(check_stacks(order, [], [], []), True)
        for stacks, spread in (([[]], []), ([[]], [0]), ([], [0]), ([[0]], [0]), ([[-1]], [-1])):
            self.assertIs(check_stacks(order, [], stacks, spread), False)

    def test_small_changes(self):
        source = random.Random(31)
        found = {True: 0, False: 0}
        for _ in range(1500):
            order = random_order(source, THREE, source.randrange(4))
            chairs = source.choices(THREE, k=source.randrange(1, 6))
            stacks, spread = fewest_stacks(order, chairs)
            if source.random() < 0.5:
                spread = changed_list(source, spread)
            else:
                at = source.randrange(len(stacks))
                stacks[at] = changed_list(source, stacks[at])
            expected = is_correct(pairs_of(order), chairs, stacks, spread)
            self.assertIs(check_stacks(order, chairs, stacks, spread), expected, (chairs, stacks, spread))
            found[expected] += 1
        self.assertGreater(min(found.values()), 50)

    def test_too_many_stacks(self):
        for pairs in SETS:
            order = Order(THREE, sorted(pairs))
            singles = [[0], [1], [2]]
            expected = len(order) == 0
            self.assertIs(check_stacks(order, THREE, singles, [0, 1, 2]), expected)

    def test_arguments_are_not_changed(self):
        stacks, spread = [[0, 1, 3], [2]], [1, 2]
        check_stacks(self.order, self.chairs, stacks, spread)
        self.assertEqual((stacks, spread), ([[0, 1, 3], [2]], [1, 2]))

    def test_unknown_makes_come_first(self):
        check_raises(self, UnknownMake, {"name": "fir"}, check_stacks, self.order, ["oak", "fir", "yew"], [], [])
        check_raises(self, UnknownMake, {"name": "yew"}, check_stacks, self.order, ["yew"], [[5]], [-1])


class Tallest(unittest.TestCase):
    """Point 33."""

    def check(self, order, chairs, heights):
        pairs, given = pairs_of(order), (list(chairs), dict(heights))
        height, stack, levels = result = tallest_stack(order, chairs, heights)
        self.assertEqual([type(part) for part in (result, height, stack, levels)], [tuple, int, list, list])
        self.assertEqual(levels, plain_levels(pairs, chairs, heights))
        self.assertTrue(is_tallest(pairs, chairs, heights, *result), (order.pairs(), chairs, result))
        self.assertIs(check_tallest(order, chairs, heights, *result), True)
        self.assertEqual((chairs, heights), given)
        return height

    def test_every_order_of_three_makes(self):
        heights = {"oak": 5, "ash": 2, "elm": 4}
        for pairs in SETS:
            order = Order(THREE, sorted(pairs))
            for size in range(5):
                for chairs in product(THREE, repeat=size):
                    height = self.check(order, list(chairs), heights)
                    self.assertEqual(height, plain_tallest(pairs, chairs, heights))

    def test_more_makes_and_heights(self):
        source = random.Random(77)
        for _ in range(60):
            makes = WOODS[:6]
            order = random_order(source, makes, source.randrange(8))
            heights = {make: source.choice((1, 2, 3, 10, 999, 1000)) for make in WOODS}
            chairs = source.choices(makes, k=8)
            self.assertEqual(self.check(order, chairs, heights), plain_tallest(pairs_of(order), chairs, heights))

    def test_heights_from_one_to_a_thousand(self):
        order = Order(THREE, [("ash", "oak"), ("elm", "oak")])
        chairs = ["ash"] * 20 + ["oak"] * 20 + ["elm"]
        self.assertEqual(self.check(order, chairs, {"oak": 1, "ash": 1, "elm": 1000}), 1020)
        self.assertEqual(self.check(order, chairs, {"oak": 1000, "ash": 1, "elm": 19}), 20020)
        self.assertEqual(self.check(order, ["oak"] * 60, {"oak": 1000}), 60000)
        self.assertEqual(self.check(order, ["oak"], {"oak": 1}), 1)

    def test_no_chairs(self):
        for order in (Order([]), Order.full(THREE)):
            self.assertEqual(tallest_stack(order, [], {}), (0, [], []))
            self.assertEqual(tallest_stack(order, [], {"oak": 3}), (0, [], []))

    def test_further_keys(self):
        order = Order(THREE, [("ash", "oak")])
        heights = {"oak": 5, "ash": 2, "fir": 900, "Not a make": 7}
        self.assertEqual(tallest_stack(order, ["oak", "ash"], heights), (7, [0, 1], [5, 7]))

    def test_chairs_of_one_make_rank_by_their_indexes(self):
        self.assertEqual(tallest_stack(Order(["oak"]), ["oak"] * 3, {"oak": 4})[2], [4, 8, 12])
        order = Order(["oak", "ash"], [("oak", "ash"), ("ash", "oak")])
        self.assertEqual(tallest_stack(order, ["ash", "oak", "ash"], {"oak": 1, "ash": 10})[2], [10, 11, 21])

    def test_sixty_chairs(self):
        source = random.Random(6)
        heights = {make: source.randrange(1, 1001) for make in WOODS}
        for count in (0, 4, 8, 12, 24):
            order = random_order(source, WOODS, count)
            chairs = source.choices(WOODS, k=60)
            height, stack, levels = tallest_stack(order, chairs, heights)
            self.assertTrue(is_tallest(pairs_of(order), chairs, heights, height, stack, levels))
        self.assertEqual(tallest_stack(Order.full(WOODS), WOODS * 5, heights)[0], 5 * sum(heights.values()))

    def test_unknown_makes_come_first(self):
        order = Order(THREE)
        check_raises(self, UnknownMake, {"name": "fir"}, tallest_stack, order, ["oak", "fir", "yew"], {})
        check_raises(self, UnknownMake, {"name": "yew"}, tallest_stack, order, ["yew", "fir"], {"yew": 1})


class CheckTallest(unittest.TestCase):
    """Point 34: check_tallest."""

    order = Order(THREE, [("ash", "oak"), ("elm", "oak")])
    chairs = ["oak", "ash", "elm"]
    heights = {"oak": 5, "ash": 2, "elm": 3, "fir": 1}

    def test_by_hand(self):
        for height, stack, levels, expected in (
            (8, [0, 2], [5, 7, 8], True),
            (8, [0, 2], [5, 8, 8], True),
            (8, [0, 2], [5, 6, 8], False),
            (8, [0, 2], [5, 9, 8], False),
            (8, [0, 2], [4, 7, 8], False),
            (8, [0, 2], [5, 7, 7], False),
            (8, [0, 2], [5, 7], False),
            (8, [0, 2], [5, 7, 8, 8], False),
            (8, [0, 2], [], False),
            (7, [0, 2], [5, 7, 7], False),
            (7, [0, 1], [5, 7, 7], False),
            (7, [0, 1], [5, 7, 8], False),
            (9, [0, 2], [5, 7, 8], False),
            (8, [2, 0], [5, 7, 8], False),
            (8, [0, -1], [5, 7, 8], False),
            (8, [-3, 2], [5, 7, 8], False),
            (8, [0, 3], [5, 7, 8], False),
            (10, [0, 0], [5, 7, 8], False),
            (10, [0, 1, 2], [5, 7, 8], False),
            (8, [], [5, 7, 8], False),
            (0, [], [5, 7, 8], False),
            (0, [], [], False),
            (5, [0], [5, 5, 5], False),
        ):
            with self.subTest(height=height, stack=stack, levels=levels):
                parts = (self.chairs, self.heights, height, stack, levels)
                self.assertIs(check_tallest(self.order, *parts), expected)
                self.assertEqual(is_tallest(pairs_of(self.order), *parts), expected)

    def test_levels_need_not_be_those_of_tallest_stack(self):
        order = Order(THREE)
        heights = {"oak": 9, "ash": 2, "elm": 3}
        for levels in ([9, 2, 3], [9, 9, 9], [9, 4, 7]):
            self.assertIs(check_tallest(order, self.chairs, heights, 9, [0], levels), True)
        for levels in ([9, 1, 3], [9, 10, 3], [8, 2, 3]):
            self.assertIs(check_tallest(order, self.chairs, heights, 9, [0], levels), False)

    def test_a_stack_need_not_keep_to_the_ranks(self):
        order = Order(["oak"])
        self.assertIs(check_tallest(order, ["oak"] * 3, {"oak": 4}, 12, [2, 0, 1], [4, 8, 12]), True)
        self.assertIs(check_tallest(order, ["oak"] * 3, {"oak": 4}, 12, [2, 0, 1], [12, 8, 4]), False)
        self.assertIs(check_tallest(order, ["oak"] * 3, {"oak": 4}, 12, [2, 0, 2], [4, 8, 12]), False)

    def test_no_chairs(self):
        order = Order(THREE)
        self.assertIs(check_tallest(order, [], {}, 0, [], []), True)
        for height, stack, levels in ((1, [], []), (0, [0], []), (0, [], [0]), (0, [-1], [])):
            self.assertIs(check_tallest(order, [], {}, height, stack, levels), False)

    def test_small_changes(self):
        source = random.Random(32)
        found = {True: 0, False: 0}
        for _ in range(2500):
            order = random_order(source, THREE, source.randrange(4))
            chairs = source.choices(THREE, k=source.randrange(1, 6))
            heights = {make: source.randrange(1, 4) for make in THREE}
            height, stack, levels = tallest_stack(order, chairs, heights)
            kind = source.randrange(4)
            if kind == 0:
                height += source.choice((-1, 1))
            elif kind == 1:
                stack = changed_list(source, stack)
            else:
                levels = changed_list(source, levels)
            parts = (chairs, heights, height, stack, levels)
            expected = is_tallest(pairs_of(order), *parts)
            self.assertIs(check_tallest(order, *parts), expected, parts)
            found[expected] += 1
        self.assertGreater(min(found.values()), 50)

    def test_arguments_are_not_changed(self):
        stack, levels = [0, 2], [5, 7, 8]
        check_tallest(self.order, self.chairs, self.heights, 8, stack, levels)
        self.assertEqual((stack, levels), ([0, 2], [5, 7, 8]))

    def test_unknown_makes_come_first(self):
        check_raises(self, UnknownMake, {"name": "fir"}, check_tallest, self.order, ["fir", "yew"], {}, 0, [], [])
        check_raises(self, UnknownMake, {"name": "yew"}, check_tallest, self.order, ["oak", "yew"], {}, 1, [7], [-1])


class Cut(unittest.TestCase):
    """Point 34: cut_stacks."""

    def test_pieces(self):
        stacks = [[0, 1, 3, 7, 9], [2], [], [5, 4]]
        for limit, expected in (
            (1, [[0], [1], [3], [7], [9], [2], [5], [4]]),
            (2, [[0, 1], [3, 7], [9], [2], [5, 4]]),
            (3, [[0, 1, 3], [7, 9], [2], [5, 4]]),
            (4, [[0, 1, 3, 7], [9], [2], [5, 4]]),
            (5, [[0, 1, 3, 7, 9], [2], [5, 4]]),
            (6, [[0, 1, 3, 7, 9], [2], [5, 4]]),
            (10 ** 30, [[0, 1, 3, 7, 9], [2], [5, 4]]),
        ):
            self.assertEqual(cut_stacks(stacks, limit), expected)
        self.assertEqual(stacks, [[0, 1, 3, 7, 9], [2], [], [5, 4]])

    def test_no_stacks(self):
        for limit in (1, 2, 60):
            self.assertEqual(cut_stacks([], limit), [])
            self.assertEqual(cut_stacks([[], []], limit), [])

    def test_wrong_limits(self):
        for limit in (0, -1, -10 ** 30):
            for stacks in ([], [[]], [[0, 1]]):
                check_raises(self, InvalidNumber, {"number": limit}, cut_stacks, stacks, limit)

    def test_any_numbers_and_new_lists(self):
        stacks = [[-4, 99], [7]]
        pieces = cut_stacks(stacks, 2)
        self.assertEqual(pieces, [[-4, 99], [7]])
        pieces[0].append(1)
        pieces[1].clear()
        self.assertEqual(stacks, [[-4, 99], [7]])

    def test_all_pieces_of_a_long_stack(self):
        stack = list(range(60))
        for limit in range(1, 62):
            pieces = cut_stacks([stack, stack], limit)
            half = len(pieces) // 2
            self.assertEqual(pieces[:half], pieces[half:])
            self.assertEqual([chair for piece in pieces[:half] for chair in piece], stack)
            self.assertEqual({len(piece) for piece in pieces[: half - 1]} - {limit}, set())
            self.assertTrue(1 <= len(pieces[-1]) <= limit)


if __name__ == "__main__":
    unittest.main()
