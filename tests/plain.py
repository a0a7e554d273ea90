"""Plain answers to hold the program against: sets of pairs of names, and nothing of the program itself."""

from itertools import combinations, product

WOODS = ["oak", "ash", "elm", "fir", "yew", "bay", "box", "lime", "pine", "teak", "plum", "pear"]


def pairs_in_order(makes):
    """The pairs of different makes, in the order of pairs."""
    return [(upper, lower) for upper in makes for lower in makes if upper != lower]


def closure(makes, pairs):
    """The smallest order with the pairs: what is missing is added until nothing is missing."""
    closed = set(pairs) | {(make, make) for make in makes}
    while True:
        missing = {(a, d) for a, b in closed for c, d in closed if b == c} - closed
        if not missing:
            return closed
        closed |= missing


def is_order(makes, pairs):
    return closure(makes, pairs) == set(pairs)


def different(makes, pairs):
    """The list that Order.pairs promises for this set of pairs."""
    return [pair for pair in pairs_in_order(makes) if pair in pairs]


def every_order(makes):
    """All sets of pairs that are orders, in the sequence that point 24 promises."""
    places = pairs_in_order(makes)
    same = {(make, make) for make in makes}
    found = []
    for choice in product((False, True), repeat=len(places)):
        pairs = same | {place for place, taken in zip(places, choice) if taken}
        if is_order(makes, pairs):
            found.append(frozenset(pairs))
    return found


def agrees(order, trial):
    word, upper, lower = trial
    return ((upper, lower) in order) == (word == "sits")


def admissible(orders, trials):
    """Those of the orders that agree with all trials, each a tuple (number, word, upper, lower)."""
    return [order for order in orders if all(agrees(order, trial[1:]) for trial in trials)]


def plain_verdict(orders, pair):
    """The verdict on the pair over these orders, of which there is at least one."""
    has = [pair in order for order in orders]
    return "sits" if all(has) else "open" if any(has) else "refuses"


class Judge:
    """Tells what the kept trials exclude. The orders are numbered, a set of orders is an integer of bits."""

    def __init__(self, makes):
        self.orders = every_order(makes)

    def agreeing(self, trial):
        return sum(1 << index for index, order in enumerate(self.orders) if agrees(order, trial))

    def left_by(self, masks):
        left = (1 << len(self.orders)) - 1
        for mask in masks:
            left &= mask
        return left

    def shortest_conflict(self, kept, wanted):
        """The length of the shortest list of kept trials that exclude the wanted ones, or None."""
        masks = [self.agreeing(trial[1:]) for trial in kept]
        demanded = self.left_by([self.agreeing(trial) for trial in wanted])
        for size in range(len(masks) + 1):
            if any(self.left_by(chosen) & demanded == 0 for chosen in combinations(masks, size)):
                return size
        return None

    def excludes(self, kept, numbers, wanted):
        """True if no order agrees with the kept trials of these numbers and the wanted ones."""
        chosen = [trial[1:] for trial in kept if trial[0] in numbers]
        return self.left_by([self.agreeing(trial) for trial in chosen + list(wanted)]) == 0


def check_conflict(test, judge, kept, wanted, numbers):
    """Hold a result of conflict against point 18."""
    size = judge.shortest_conflict(kept, wanted)
    if size is None:
        test.assertIsNone(numbers)
        return
    test.assertIs(type(numbers), list)
    test.assertEqual(len(numbers), size)
    test.assertEqual(numbers, sorted(set(numbers)))
    test.assertTrue(set(numbers) <= {trial[0] for trial in kept})
    test.assertTrue(judge.excludes(kept, numbers, wanted))
