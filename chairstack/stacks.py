"""Stacks of single chairs: as few as possible, as tall as possible, and the checks of both."""

from chairstack.checks import check_from_one
from chairstack.names import check_known


def fewest_stacks(order, chairs):
    """As few stacks of all chairs as possible, and a spread of as many chairs, which shows that it takes so many."""
    _check_chairs(order, chairs)
    riders = _riders(order, chairs)
    ground = _most_carried(riders)
    return _stacks_on(ground, len(chairs)), _spread(riders, ground)


def check_stacks(order, chairs, stacks, spread):
    """True if stacks and spread are a correct result of fewest_stacks."""
    _check_chairs(order, chairs)
    places = list(range(len(chairs)))
    return (
        sorted([chair for stack in stacks for chair in stack]) == places
        and all([len(stack) > 0 and _stands(order, chairs, stack) for stack in stacks])
        and len(spread) == len(stacks)
        and spread == [chair for chair in places if chair in spread]
        and not any([_sits(order, chairs, one, two) for one in spread for two in spread if one != two])
    )


def tallest_stack(order, chairs, heights):
    """The greatest height of a stack, such a stack, and the level of each chair."""
    _check_chairs(order, chairs)
    if not chairs:
        return (0, [], [])
    bases = _bases(order, chairs)
    levels = _levels(bases, [heights[make] for make in chairs])
    top = levels.index(max(levels))
    return (levels[top], _stack_below(bases, levels, top), levels)


def check_tallest(order, chairs, heights, height, stack, levels):
    """True if the stack has this height, and the levels show that no stack is taller."""
    _check_chairs(order, chairs)
    own = [heights[make] for make in chairs]
    return (
        all([0 <= chair < len(chairs) for chair in stack])
        and len(set(stack)) == len(stack)
        and _stands(order, chairs, stack)
        and sum([own[chair] for chair in stack]) == height
        and len(levels) == len(chairs)
        and all([low <= level <= height for low, level in zip(own, levels)])
        and _rise_enough(_bases(order, chairs), own, levels)
    )


def cut_stacks(stacks, limit):
    """The stacks cut from the floor up into pieces of so many chairs; the last piece of a stack may be smaller."""
    check_from_one(limit)
    return [stack[start:start + limit] for stack in stacks for start in range(0, len(stack), limit)]


def _check_chairs(order, chairs):
    for make in chairs:
        check_known(order.makes, make)


def _sits(order, chairs, upper, lower):
    return order.sits(chairs[upper], chairs[lower])


def _stands(order, chairs, stack):
    return all([_sits(order, chairs, upper, lower) for lower, upper in zip(stack, stack[1:])])


def _ranks_above(order, chairs, upper, lower):
    """True if the chair stands above the other one wherever a stack has both and keeps to one fixed sequence.

    Two chairs that sit on each other rank by their indexes. So the ranks have no circles, and the chairs
    of a stack can always be put into the sequence of their ranks.
    """
    return _sits(order, chairs, upper, lower) and (upper > lower or not _sits(order, chairs, lower, upper))


def _bases(order, chairs):
    """For each chair the chairs that it ranks above."""
    places = range(len(chairs))
    return [[lower for lower in places if _ranks_above(order, chairs, upper, lower)] for upper in places]


def _riders(order, chairs):
    """For each chair the chairs that rank above it."""
    places = range(len(chairs))
    return [[upper for upper in places if _ranks_above(order, chairs, upper, lower)] for lower in places]


def _most_carried(riders):
    """A dict from chairs to the chairs that they stand on, one on one, with as many chairs as possible."""
    ground = {}
    for start in range(len(riders)):
        came, free = _search(riders, ground, [start])
        if free is not None:
            ground = _moved(ground, came, free)
    return ground


def _search(riders, ground, starts):
    """What can be carried in turn if the starts, which carry nothing, shall carry a chair.

    The result is a dict from each chair that was reached to the chair that shall carry it, and a reached
    chair that nothing carries so far, or None.
    """
    came = {}
    waiting = list(starts)
    while waiting:
        lower = waiting.pop()
        for upper in riders[lower]:
            if upper not in came:
                came[upper] = lower
                if upper not in ground:
                    return came, upper
                # The chair that carries it now would have to carry another one instead.
                waiting.append(ground[upper])
    return came, None


def _moved(ground, came, free):
    """The dict of carried chairs after each chair on the way to the free one was moved to its new place."""
    moved = dict(ground)
    load = _load(ground)
    upper = free
    while upper is not None:
        lower = came[upper]
        moved[upper] = lower
        upper = load.get(lower)
    return moved


def _load(ground):
    """A dict from chairs to the chairs that stand directly on them."""
    return {lower: upper for upper, lower in ground.items()}


def _stacks_on(ground, count):
    """The stacks in which each of so many chairs stands on its ground, or on the floor."""
    load = _load(ground)
    stacks = []
    for chair in range(count):
        if chair not in ground:
            stack = [chair]
            while stack[-1] in load:
                stack.append(load[stack[-1]])
            stacks.append(stack)
    return stacks


def _spread(riders, ground):
    """A chair of each stack such that none sits on another one, where as many chairs as possible are carried.

    The chairs that the search does not reach, and those that carry a chair that it reaches, meet every pair
    of ranks (the theorem of Koenig). The chairs that are in neither way among these are a spread.
    """
    load = _load(ground)
    places = range(len(riders))
    reached, _ = _search(riders, ground, [chair for chair in places if chair not in load])
    return [chair for chair in places if chair not in reached and (chair not in load or load[chair] in reached)]


def _levels(bases, own):
    """The level of each chair: the height of the tallest stack in the sequence of ranks with this chair on top."""
    levels = {}
    # A chair ranks above more chairs than each one that it ranks above.
    for chair in sorted(range(len(bases)), key=lambda place: len(bases[place])):
        levels[chair] = own[chair] + max([levels[lower] for lower in bases[chair]], default=0)
    return [levels[index] for index in range(len(bases))]


def _stack_below(bases, levels, top):
    """A stack with this top, from the floor up, whose height is the level of the top."""
    stack = [top]
    while bases[stack[0]]:
        stack = [max(bases[stack[0]], key=lambda lower: levels[lower])] + stack
    return stack


def _rise_enough(bases, own, levels):
    """True if each level is at least its chair's height above the level of each chair that it ranks above."""
    return all([levels[upper] >= levels[lower] + own[upper] for upper, row in enumerate(bases) for lower in row])
