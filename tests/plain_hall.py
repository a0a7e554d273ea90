"""A plain hall to hold the program against: it keeps the calls that were deeds, and does them all again each time."""

from caught import state
from chairstack import errors
from chairstack.records import Record
from chairstack.stacks import fewest_stacks, tallest_stack
from chairstack.verdicts import least

TRIAL_DEEDS = ("note", "saw", "retract")
LOOKS = ("heights", "loans", "chairs", "fewest", "plan", "tallest")


def is_name(text):
    return 1 <= len(text) <= 12 and set(text) <= set("abcdefghijklmnopqrstuvwxyz")


class Now:
    """The hall at one moment: a list with an entry [make, number of the loan or None] for each chair."""

    def __init__(self, makes, limit):
        self.record = Record(*makes)
        self.heights = dict.fromkeys(makes, 1)
        self.limit = limit
        self.pieces = []
        self.borrowers = {}
        self.given = 0

    def places(self, make, loan):
        return [at for at, piece in enumerate(self.pieces) if piece == [make, loan]]

    def lent(self, number):
        """The make of a loan and the places of its chairs that are out."""
        places = [at for at, piece in enumerate(self.pieces) if piece[1] == number]
        return self.pieces[places[0]][0], places

    def problem(self, name, arguments, more):
        """The error that point 47 asks for, as (class, attributes), or None."""
        if name in TRIAL_DEEDS:
            try:
                getattr(self.record.copy(), name)(*arguments)
            except errors.ChairError as error:
                return type(error), vars(error)
            return None
        found = list(getattr(self, "problems_of_" + name)(*arguments, **more))
        return found[0] if found else None

    def problems_of_add_make(self, name, height=1):
        try:
            self.record.copy().add_make(name)
        except errors.ChairError as error:
            yield type(error), vars(error)
        if height not in range(1, 1001):
            yield errors.InvalidNumber, {"number": height}

    def problems_of_bring(self, *lots, **counts):
        brought = [*lots, *counts.items()]
        for make, count in brought:
            if make not in self.heights:
                yield errors.UnknownMake, {"name": make}
            if count <= 0:
                yield errors.InvalidNumber, {"number": count}
        if len(self.pieces) + sum(count for _, count in brought) > 60:
            yield errors.Full, {"most": 60}

    def problems_of_scrap(self, make, count):
        if make not in self.heights:
            yield errors.UnknownMake, {"name": make}
        if count <= 0:
            yield errors.InvalidNumber, {"number": count}
        if count > len(self.places(make, None)):
            yield errors.NotEnough, {"make": make, "available": len(self.places(make, None))}

    def problems_of_lend(self, borrower, make, count):
        if not is_name(borrower):
            yield errors.InvalidName, {"name": borrower}
        yield from self.problems_of_scrap(make, count)

    def problems_of_give_back(self, number, count=None):
        if number not in self.borrowers:
            yield errors.UnknownLoan, {"number": number}
            return
        if count is not None and count <= 0:
            yield errors.InvalidNumber, {"number": count}
        make, places = self.lent(number)
        if count is not None and count > len(places):
            yield errors.NotEnough, {"make": make, "available": len(places)}

    def problems_of_change_limit(self, value):
        if value not in range(1, 61):
            yield errors.InvalidNumber, {"number": value}

    def do(self, name, arguments, more):
        """Carry out a call that raises nothing, and return what it returns."""
        if name in TRIAL_DEEDS:
            return getattr(self.record, name)(*arguments)
        return getattr(self, "do_" + name)(*arguments, **more)

    def do_add_make(self, name, height=1):
        self.record.add_make(name)
        self.heights[name] = height

    def do_bring(self, *lots, **counts):
        for make, count in [*lots, *counts.items()]:
            self.pieces += [[make, None] for _ in range(count)]

    def do_scrap(self, make, count):
        for _ in range(count):
            self.pieces.remove([make, None])

    def do_lend(self, borrower, make, count):
        self.given += 1
        self.borrowers[self.given] = borrower
        for at in self.places(make, None)[:count]:
            self.pieces[at][1] = self.given
        return self.given

    def do_give_back(self, number, count=None):
        _, places = self.lent(number)
        for at in places if count is None else places[:count]:
            self.pieces[at][1] = None
        if number not in [loan for _, loan in self.pieces]:
            del self.borrowers[number]

    def do_change_limit(self, value):
        self.limit = value

    def told(self):
        """What told promises for a hall at this moment, without the history."""
        makes = self.record.makes
        chairs = [make for make in makes for _ in self.places(make, None)]
        counts = []
        for make in makes:
            owned = len([piece for piece in self.pieces if piece[0] == make])
            home = len(self.places(make, None))
            counts.append((owned, home, owned - home))
        loans = [(number, self.borrowers[number], self.lent(number)[0], len(self.lent(number)[1]))
                 for number in sorted(self.borrowers)]
        surest = least(self.record)
        stacks, _ = fewest_stacks(surest, chairs)
        plan = [[chairs[at] for at in stack[low:low + self.limit]]
                for stack in stacks for low in range(0, len(stack), self.limit)]
        height, tallest, _ = tallest_stack(surest, chairs, self.heights)
        looks = (list(self.heights.items()), loans, chairs, len(stacks), plan,
                 (height, [chairs[at] for at in tallest]))
        return makes, self.limit, state(self.record), counts, self.given + 1, looks


class PlainHall:
    """The deeds that were done and those that were taken back, and nothing else."""

    def __init__(self, makes, limit):
        self.start = (makes, limit)
        self.done = []
        self.undone = []

    def copy(self):
        twin = PlainHall(*self.start)
        twin.done, twin.undone = list(self.done), list(self.undone)
        return twin

    def now(self):
        now = Now(*self.start)
        for deed in self.done:
            now.do(*deed)
        return now

    def call(self, name, arguments, more):
        """The error of the call as (class, attributes), and what it returns."""
        if name in ("undo", "redo"):
            source, target = (self.done, self.undone) if name == "undo" else (self.undone, self.done)
            if not source:
                return (errors.NothingToUndo if name == "undo" else errors.NothingToRedo, {}), None
            target.append(source.pop())
            return None, None
        now = self.now()
        problem = now.problem(name, arguments, more)
        if problem:
            return problem, None
        returned = now.do(name, arguments, more)
        if not (name == "saw" and len(arguments) < 2 or name == "bring" and not arguments and not more):
            self.done.append((name, arguments, more))
            self.undone = []
        return None, returned

    def told(self):
        return self.now().told(), len(self.done), len(self.undone)


def next_loan(hall):
    """The number that the next loan of the hall will have."""
    probe = hall.copy()
    if not probe.makes:
        probe.add_make("oak")
    if not probe.chairs():
        if probe.loans():
            probe.give_back(probe.loans()[0][0])
        else:
            probe.bring((probe.makes[0], 1))
    return probe.lend("anna", probe.chairs()[0], 1)


def told(hall):
    """All that the hall tells, the next numbers included."""
    counts = [hall.counts(make) for make in hall.makes]
    heights, *looks = [getattr(hall, look)() for look in LOOKS]
    looks = (list(heights.items()), *looks)
    now = hall.makes, hall.limit, state(hall.record()), counts, next_loan(hall), looks
    return now, hall.undo_count, hall.redo_count
