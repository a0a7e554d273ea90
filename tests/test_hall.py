"""Points 2 and 46 to 48: the hall, its deeds and its looks."""

import random
import unittest

from caught import check_raises, state
from chairstack import errors
from chairstack.hall import DEFAULT_LIMIT, Hall
from chairstack.records import Record
from chairstack.stacks import check_tallest, cut_stacks, fewest_stacks
from chairstack.verdicts import least, open_pairs
from plain import WOODS
from plain_hall import PlainHall, told

THREE = ["oak", "ash", "elm"]
OUT_OF_RANGE = (0, -1, -10 ** 30, 10 ** 30)


def stocked():
    """A hall with three makes, some chairs and two loans."""
    hall = Hall(*THREE)
    hall.bring(oak=3, ash=4)
    hall.lend("anna", "ash", 3)
    hall.lend("bert", "oak", 1)
    hall.note("sits", "ash", "oak")
    return hall


def random_call(source, makes):
    """A call of point 47 or 49, often a wrong one."""
    def make():
        return source.choice([*makes, *makes, *makes, source.choice(WOODS), "Oak"])

    def count():
        return source.choice((1, 1, 2, 3, source.randrange(-1, 9), source.choice((0, 30, 10 ** 20))))

    name = source.choice((
        "add_make", "note", "note", "saw", "retract", "bring", "bring", "scrap", "lend", "lend",
        "give_back", "change_limit", "undo", "undo", "undo", "redo", "redo",
    ))
    more = {}
    if name == "add_make":
        arguments = (source.choice([*WOODS[:6], "Elm", "", "abcdefghijklm"]),)
        more = source.choice(({}, {"height": source.choice((1, 7, 1000, 1001, 0))}))
    elif name == "note":
        arguments = (source.choice(("sits", "sits", "refuses", "leans")), make(), make())
    elif name == "saw":
        arguments = tuple(make() for _ in range(source.randrange(4)))
    elif name == "retract":
        arguments = (source.randrange(0, 12),)
    elif name == "bring":
        arguments = tuple((make(), count()) for _ in range(source.randrange(3)))
        more = {make(): count() for _ in range(source.randrange(3))}
    elif name == "scrap":
        arguments = (make(), count())
    elif name == "lend":
        arguments = (source.choice(("anna", "bert", "Carl", "")) if source.random() < 0.3 else "dora", make(), count())
    elif name == "give_back":
        arguments = (source.randrange(0, 6), *source.choice(((), (None,), (count(),))))
    elif name == "change_limit":
        arguments = (source.choice((0, 1, 2, 3, 60, 61)),)
    else:
        arguments = ()
    return name, arguments, more


def random_hall(seed, makes, steps):
    """A hall after so many random calls, of which the wrong ones changed nothing."""
    source = random.Random(seed)
    hall = Hall(*makes)
    for _ in range(steps):
        name, arguments, more = random_call(source, hall.makes)
        try:
            getattr(hall, name)(*arguments, **more)
        except errors.ChairError:
            pass
    return hall


class Making(unittest.TestCase):
    """Point 46."""

    def test_start(self):
        for count in (0, 1, 12):
            hall = Hall(*WOODS[:count])
            self.assertEqual((hall.makes, hall.limit), (tuple(WOODS[:count]), 10))
            self.assertEqual(list(hall.heights().items()), [(make, 1) for make in WOODS[:count]])
            self.assertEqual([hall.counts(make) for make in hall.makes], [(0, 0, 0)] * count)
            self.assertEqual((hall.loans(), hall.chairs(), hall.record().trials()), ([], [], []))
            self.assertEqual((hall.fewest(), hall.plan(), hall.tallest()), (0, [], (0, [])))
            self.assertEqual((hall.undo_count, hall.redo_count), (0, 0))

    def test_limit(self):
        self.assertEqual(DEFAULT_LIMIT, 10)
        for limit in (1, 2, 59, 60):
            self.assertEqual(Hall("oak", limit=limit).limit, limit)
        for limit in (*OUT_OF_RANGE, 61):
            check_raises(self, errors.InvalidNumber, {"number": limit}, Hall, "oak", limit=limit)
            check_raises(self, errors.InvalidNumber, {"number": limit}, Hall, limit=limit)

    def test_the_makes_are_checked_first(self):
        for limit in (10, 0, 61):
            check_raises(self, errors.Full, {"most": 12}, Hall, "Oak", "Oak", *WOODS[:11], limit=limit)
            check_raises(self, errors.DuplicateMake, {"name": "oak"}, Hall, "oak", "oak", "Elm", limit=limit)
            check_raises(self, errors.InvalidName, {"name": "Elm"}, Hall, "oak", "Elm", "oak", limit=limit)


class Against(unittest.TestCase):
    """Points 46 to 49: long sequences of calls, right ones and wrong ones."""

    def run_calls(self, seed, steps):
        source = random.Random(seed)
        makes = WOODS[:source.randrange(4)]
        limit = source.choice((1, 2, 3, 10, 60))
        hall, plain = Hall(*makes, limit=limit), PlainHall(makes, limit)
        for _ in range(steps):
            name, arguments, more = random_call(source, list(hall.makes) or ["oak"])
            problem, returned = plain.call(name, arguments, more)
            if problem:
                check_raises(self, problem[0], problem[1], getattr(hall, name), *arguments, **more)
                self.raised[problem[0].__name__] = self.raised.get(problem[0].__name__, 0) + 1
            else:
                self.assertEqual(getattr(hall, name)(*arguments, **more), returned)
            self.assertEqual(told(hall), plain.told())
            if source.random() < 0.1:
                # The other one goes on: a copy has the same content and the same history.
                other, hall = hall, hall.copy()
                self.others.append((other, plain.copy()))

    def test_calls(self):
        self.raised, self.others = {}, []
        for seed in range(60):
            self.run_calls(seed, 50)
        for hall, plain in self.others:
            self.assertEqual(told(hall), plain.told())
        names = (
            "InvalidName", "DuplicateMake", "UnknownMake", "InvalidNumber", "InvalidWord", "Full", "UnknownTrial",
            "Contradiction", "NotEnough", "UnknownLoan", "NothingToUndo", "NothingToRedo",
        )
        self.assertEqual(sorted(self.raised), sorted(names))
        self.assertGreater(min(self.raised.values()), 3, self.raised)


class Deeds(unittest.TestCase):
    """Point 47: the checks in their sequence, and the edges."""

    def check_nothing_done(self, hall, kind, attributes, call, *arguments, **more):
        before = told(hall)
        error = check_raises(self, kind, attributes, call, *arguments, **more)
        self.assertEqual(told(hall), before)
        return error

    def test_add_make(self):
        hall = Hall("oak")
        self.assertIsNone(hall.add_make("ash"))
        self.assertIsNone(hall.add_make("elm", height=1000))
        hall.add_make("fir", height=1)
        self.assertEqual(hall.makes, ("oak", "ash", "elm", "fir"))
        self.assertEqual(list(hall.heights().items()), [("oak", 1), ("ash", 1), ("elm", 1000), ("fir", 1)])
        self.assertEqual(hall.counts("elm"), (0, 0, 0))
        self.assertEqual(hall.record().makes, hall.makes)
        with self.assertRaises(TypeError):
            hall.add_make("yew", 5)

    def test_add_make_checks_in_sequence(self):
        for hall in (Hall("oak"), Hall(*WOODS)):
            for height in (5, 0, 1001):
                for name in ("Oak", "", "abcdefghijklm"):
                    self.check_nothing_done(hall, errors.InvalidName, {"name": name}, hall.add_make, name, height=height)
                self.check_nothing_done(hall, errors.DuplicateMake, {"name": "oak"}, hall.add_make, "oak", height=height)
        for height in (5, 0, 1001):
            self.check_nothing_done(hall, errors.Full, {"most": 12}, hall.add_make, "rowan", height=height)
        hall = Hall("oak")
        for height in (*OUT_OF_RANGE, 1001):
            self.check_nothing_done(hall, errors.InvalidNumber, {"number": height}, hall.add_make, "ash", height=height)

    def test_trials(self):
        hall = Hall(*THREE)
        self.assertEqual([hall.note("sits", "ash", "oak"), hall.note("refuses", "elm", "oak")], [1, 2])
        self.assertEqual(hall.saw("oak", "ash", "ash"), [3, 4])
        self.assertIsNone(hall.retract(3))
        self.assertEqual(hall.note("sits", "oak", "elm"), 5)
        self.assertEqual(hall.record().trials(), [
            (1, "sits", "ash", "oak"), (2, "refuses", "elm", "oak"), (4, "sits", "ash", "ash"), (5, "sits", "oak", "elm"),
        ])
        self.check_nothing_done(hall, errors.Contradiction, {"numbers": [2]}, hall.note, "sits", "elm", "oak")
        self.check_nothing_done(hall, errors.Contradiction, {"numbers": [1, 2]}, hall.saw, "ash", "elm")
        self.check_nothing_done(hall, errors.Contradiction, {"numbers": []}, hall.note, "refuses", "elm", "elm")
        self.check_nothing_done(hall, errors.UnknownTrial, {"number": 3}, hall.retract, 3)
        self.check_nothing_done(hall, errors.UnknownMake, {"name": "fir"}, hall.saw, "fir")

    def test_trials_check_in_sequence(self):
        hall = Hall(*THREE)
        hall.note("refuses", "ash", "oak")
        hall.saw(*["oak"] * 60)
        self.check_nothing_done(hall, errors.InvalidWord, {"word": "open"}, hall.note, "open", "fir", "yew")
        self.check_nothing_done(hall, errors.UnknownMake, {"name": "fir"}, hall.note, "sits", "fir", "yew")
        self.check_nothing_done(hall, errors.UnknownMake, {"name": "yew"}, hall.note, "sits", "ash", "yew")
        self.check_nothing_done(hall, errors.Full, {"most": 60}, hall.note, "sits", "ash", "oak")
        self.check_nothing_done(hall, errors.UnknownMake, {"name": "yew"}, hall.saw, "oak", "ash", "yew", "fir")
        self.check_nothing_done(hall, errors.Full, {"most": 60}, hall.saw, "oak", "ash")
        self.assertEqual((hall.saw(), hall.saw("oak"), hall.undo_count), ([], [], 2))

    def test_bring(self):
        hall = Hall("oak", "ash", "self", "lots", "counts")
        self.assertIsNone(hall.bring(("oak", 1), ("self", 2), ("oak", 3), ash=4, oak=5, lots=6, counts=7))
        self.assertEqual([hall.counts(make)[0] for make in hall.makes], [9, 4, 2, 6, 7])
        self.assertEqual([hall.counts(make)[1:] for make in hall.makes], [(9, 0), (4, 0), (2, 0), (6, 0), (7, 0)])
        hall.bring(("ash", 1))
        hall.bring(oak=1)
        self.assertEqual((hall.counts("ash"), hall.counts("oak")), ((5, 5, 0), (10, 10, 0)))
        with self.assertRaises(TypeError):
            hall.bring(self=1)

    def test_bring_without_arguments(self):
        hall = stocked()
        before = told(hall)
        self.assertIsNone(hall.bring())
        self.assertEqual(told(hall), before)

    def test_bring_checks_in_sequence(self):
        hall = stocked()
        for lots, counts, kind, attributes in (
            ([("fir", 0)], {}, errors.UnknownMake, {"name": "fir"}),
            ([("oak", 0)], {"fir": 1}, errors.InvalidNumber, {"number": 0}),
            ([("oak", 1), ("fir", 1), ("ash", -1)], {}, errors.UnknownMake, {"name": "fir"}),
            ([("oak", 1), ("ash", -1), ("fir", 1)], {}, errors.InvalidNumber, {"number": -1}),
            ([("oak", 61)], {"fir": 1}, errors.UnknownMake, {"name": "fir"}),
            ([("oak", 61)], {"ash": 0}, errors.InvalidNumber, {"number": 0}),
            ([], {"fir": 1, "oak": 0}, errors.UnknownMake, {"name": "fir"}),
            ([], {"oak": 0, "fir": 1}, errors.InvalidNumber, {"number": 0}),
            ([("yew", 1)], {"fir": 1}, errors.UnknownMake, {"name": "yew"}),
            ([("", 1)], {}, errors.UnknownMake, {"name": ""}),
            ([("oak", 50)], {"oak": 4}, errors.Full, {"most": 60}),
            ([("oak", 10 ** 40)], {}, errors.Full, {"most": 60}),
        ):
            self.check_nothing_done(hall, kind, attributes, hall.bring, *lots, **counts)

    def test_sixty_chairs(self):
        hall = Hall("oak", "ash")
        check_raises(self, errors.Full, {"most": 60}, hall.bring, ("oak", 60), ash=1)
        check_raises(self, errors.Full, {"most": 60}, hall.bring, oak=61)
        hall.bring(("oak", 30), ("oak", 1), ash=29)
        self.assertEqual((len(hall.chairs()), hall.fewest(), hall.tallest()[0]), (60, 2, 31))
        for _ in range(2):
            self.check_nothing_done(hall, errors.Full, {"most": 60}, hall.bring, ash=1)
            # Chairs that are lent are owned all the same.
            hall.lend("anna", "oak", 5)
        self.check_nothing_done(hall, errors.Full, {"most": 60}, hall.bring, ash=1)
        hall.scrap("oak", 2)
        self.check_nothing_done(hall, errors.Full, {"most": 60}, hall.bring, ash=3)
        hall.bring(ash=2)
        self.assertEqual((hall.counts("oak"), hall.counts("ash")), ((29, 19, 10), (31, 31, 0)))

    def test_scrap(self):
        hall = stocked()
        self.assertIsNone(hall.scrap("oak", 2))
        self.assertEqual(hall.counts("oak"), (1, 0, 1))
        self.check_nothing_done(hall, errors.NotEnough, {"make": "oak", "available": 0}, hall.scrap, "oak", 1)
        self.check_nothing_done(hall, errors.NotEnough, {"make": "ash", "available": 1}, hall.scrap, "ash", 2)
        for count in (0, -3, 10 ** 30):
            self.check_nothing_done(hall, errors.UnknownMake, {"name": "fir"}, hall.scrap, "fir", count)
        for count in (0, -3):
            self.check_nothing_done(hall, errors.InvalidNumber, {"number": count}, hall.scrap, "oak", count)
        self.check_nothing_done(hall, errors.NotEnough, {"make": "elm", "available": 0}, hall.scrap, "elm", 10 ** 30)

    def test_lend(self):
        hall = stocked()
        self.assertEqual(hall.lend("anna", "ash", 1), 3)
        self.assertEqual(
            hall.loans(), [(1, "anna", "ash", 3), (2, "bert", "oak", 1), (3, "anna", "ash", 1)]
        )
        self.assertEqual((hall.counts("ash"), hall.counts("oak")), ((4, 0, 4), (3, 2, 1)))
        self.assertEqual(hall.chairs(), ["oak", "oak"])

    def test_lend_checks_in_sequence(self):
        hall = stocked()
        for borrower in ("Anna", "", "an na", "abcdefghijklm", "anna1"):
            self.check_nothing_done(hall, errors.InvalidName, {"name": borrower}, hall.lend, borrower, "fir", 0)
        self.check_nothing_done(hall, errors.UnknownMake, {"name": "fir"}, hall.lend, "anna", "fir", 0)
        self.check_nothing_done(hall, errors.InvalidNumber, {"number": 0}, hall.lend, "anna", "ash", 0)
        self.check_nothing_done(hall, errors.InvalidNumber, {"number": -9}, hall.lend, "anna", "elm", -9)
        self.check_nothing_done(hall, errors.NotEnough, {"make": "ash", "available": 1}, hall.lend, "anna", "ash", 2)
        self.check_nothing_done(hall, errors.NotEnough, {"make": "elm", "available": 0}, hall.lend, "anna", "elm", 1)
        # A borrower may have the name of a make.
        self.assertEqual(hall.lend("oak", "oak", 2), 3)

    def test_numbers_of_closed_loans_are_not_given_again(self):
        hall = Hall("oak")
        hall.bring(oak=5)
        self.assertEqual([hall.lend("anna", "oak", 1) for _ in range(3)], [1, 2, 3])
        hall.give_back(3)
        self.assertEqual(hall.lend("bert", "oak", 1), 4)
        for number in (1, 2, 4):
            hall.give_back(number, 1)
        self.assertEqual((hall.loans(), hall.lend("bert", "oak", 1)), ([], 5))

    def test_give_back(self):
        hall = stocked()
        self.assertIsNone(hall.give_back(1, 1))
        self.assertEqual(hall.loans(), [(1, "anna", "ash", 2), (2, "bert", "oak", 1)])
        self.assertEqual(hall.counts("ash"), (4, 2, 2))
        self.check_nothing_done(hall, errors.NotEnough, {"make": "ash", "available": 2}, hall.give_back, 1, 3)
        self.assertIsNone(hall.give_back(1))
        self.assertEqual((hall.loans(), hall.counts("ash")), ([(2, "bert", "oak", 1)], (4, 4, 0)))
        self.check_nothing_done(hall, errors.UnknownLoan, {"number": 1}, hall.give_back, 1)
        hall.give_back(2, count=1)
        self.assertEqual((hall.loans(), hall.counts("oak")), ([], (3, 3, 0)))

    def test_give_back_in_whole(self):
        for count in (None, 3):
            hall = stocked()
            hall.give_back(1, count)
            self.assertEqual((hall.loans(), hall.counts("ash")), ([(2, "bert", "oak", 1)], (4, 4, 0)))
            self.check_nothing_done(hall, errors.UnknownLoan, {"number": 1}, hall.give_back, 1, count)

    def test_give_back_checks_in_sequence(self):
        hall = stocked()
        for number in (0, -1, 3, 10 ** 30):
            for count in (None, 0, 1, 10 ** 30):
                self.check_nothing_done(hall, errors.UnknownLoan, {"number": number}, hall.give_back, number, count)
        for count in (0, -1):
            self.check_nothing_done(hall, errors.InvalidNumber, {"number": count}, hall.give_back, 1, count)
        self.check_nothing_done(hall, errors.NotEnough, {"make": "ash", "available": 3}, hall.give_back, 1, 4)
        self.check_nothing_done(hall, errors.NotEnough, {"make": "oak", "available": 1}, hall.give_back, 2, 10 ** 30)

    def test_limit(self):
        def assign(hall, value):
            hall.limit = value

        for change in (Hall.change_limit, assign):
            hall = Hall("oak")
            for value in (1, 60, 60, 10):
                self.assertIsNone(change(hall, value))
                self.assertEqual(hall.limit, value)
            self.assertEqual(hall.undo_count, 4)
            for value in (*OUT_OF_RANGE, 61):
                self.check_nothing_done(hall, errors.InvalidNumber, {"number": value}, change, hall, value)

    def test_limit_in_place(self):
        hall = Hall("oak", limit=59)
        hall.limit += 1
        self.assertEqual((hall.limit, hall.undo_count), (60, 1))
        with self.assertRaises(errors.InvalidNumber):
            hall.limit += 1
        self.assertEqual((hall.limit, hall.undo_count), (60, 1))

    def test_arguments_stay_as_they_are(self):
        hall = Hall(*THREE)
        lots, counts = [("oak", 1), ("oak", 2)], {"ash": 1}
        hall.bring(*lots, **counts)
        self.assertEqual((lots, counts), ([("oak", 1), ("oak", 2)], {"ash": 1}))


class Looks(unittest.TestCase):
    """Point 48."""

    def test_counts(self):
        hall = stocked()
        self.assertEqual([hall.counts(make) for make in THREE], [(3, 2, 1), (4, 1, 3), (0, 0, 0)])
        self.assertIs(type(hall.counts("oak")), tuple)
        for name in ("fir", "", "Oak"):
            check_raises(self, errors.UnknownMake, {"name": name}, hall.counts, name)

    def test_chairs_are_in_the_sequence_of_the_makes(self):
        hall = Hall("oak", "ash")
        hall.bring(ash=2)
        hall.add_make("elm")
        hall.bring(("elm", 1), ("oak", 1), ("ash", 1))
        self.assertEqual(hall.chairs(), ["oak", "ash", "ash", "ash", "elm"])
        hall.lend("anna", "ash", 2)
        self.assertEqual(hall.chairs(), ["oak", "ash", "elm"])
        hall.scrap("oak", 1)
        self.assertEqual(hall.chairs(), ["ash", "elm"])
        hall.give_back(1, 1)
        self.assertEqual(hall.chairs(), ["ash", "ash", "elm"])

    def test_returned_values_are_the_callers_own(self):
        hall = stocked()
        before = told(hall)
        hall.heights().clear()
        hall.heights()["oak"] = 50
        hall.loans().clear()
        hall.chairs().append("elm")
        hall.plan()[0].clear()
        hall.plan().clear()
        hall.tallest()[1].clear()
        record = hall.record()
        record.note("sits", "elm", "oak")
        record.retract(1)
        record.add_make("fir")
        self.assertEqual(told(hall), before)
        hall.note("refuses", "oak", "ash")
        self.assertEqual(record.trials(), [(2, "sits", "elm", "oak")])

    def test_record(self):
        hall = stocked()
        hall.note("refuses", "elm", "oak")
        hall.retract(1)
        record = hall.record()
        self.assertIs(type(record), Record)
        self.assertEqual(state(record), (tuple(THREE), [(2, "refuses", "elm", "oak")], 1, 3))
        self.assertEqual(list(open_pairs(record)), list(open_pairs(hall.record())))

    def test_properties_are_only_read(self):
        hall = stocked()
        for name in ("makes", "undo_count", "redo_count"):
            with self.assertRaises(AttributeError):
                setattr(hall, name, 1)

    def test_stacks(self):
        hall = Hall("oak", "ash", "elm", limit=2)
        hall.add_make("fir", height=7)
        hall.bring(oak=2, ash=2, elm=1, fir=1)
        self.assertEqual((hall.fewest(), hall.tallest()), (4, (7, ["fir"])))
        self.assertEqual(sorted(hall.plan()), [["ash", "ash"], ["elm"], ["fir"], ["oak", "oak"]])
        hall.saw("oak", "ash", "fir")
        hall.note("refuses", "elm", "oak")
        self.assertEqual((hall.fewest(), hall.tallest()), (2, (11, ["oak", "oak", "ash", "ash", "fir"])))
        self.assertEqual(sorted(hall.plan()), [["ash", "ash"], ["elm"], ["fir"], ["oak", "oak"]])
        hall.limit = 3
        self.assertEqual(sorted(hall.plan()), [["ash", "fir"], ["elm"], ["oak", "oak", "ash"]])
        hall.limit = 1
        self.assertEqual(sorted(hall.plan()), [[make] for make in sorted(hall.chairs())])
        hall.limit = 60
        self.assertEqual(sorted(hall.plan()), [["elm"], ["oak", "oak", "ash", "ash", "fir"]])
        hall.lend("anna", "ash", 2)
        self.assertEqual((hall.fewest(), hall.tallest()), (2, (9, ["oak", "oak", "fir"])))

    def test_plans_of_random_halls(self):
        source = random.Random(48)
        for _ in range(60):
            makes = WOODS[:source.randrange(1, 8)]
            hall = Hall(*makes, limit=source.choice((1, 2, 3, 7, 60)))
            for name in WOODS[len(makes):len(makes) + 2]:
                hall.add_make(name, height=source.choice((1, 2, 1000)))
            for _ in range(source.randrange(9)):
                try:
                    hall.note(source.choice(("sits", "refuses")), source.choice(hall.makes), source.choice(hall.makes))
                except errors.Contradiction:
                    pass
            hall.bring(*[(source.choice(hall.makes), source.randrange(1, 5)) for _ in range(source.randrange(12))])
            self.check_looks(hall)

    def test_a_hall_made_again_from_its_answers(self):
        for seed in range(40):
            hall = random_hall(seed, THREE, 40)
            again = Hall(limit=hall.limit)
            for make, height in hall.heights().items():
                again.add_make(make, height=height)
            for _, word, upper, lower in hall.record().trials():
                again.note(word, upper, lower)
            for make in hall.makes:
                again.bring(*[(make, 1)] * hall.counts(make)[0])
            for _, borrower, make, count in hall.loans():
                again.lend(borrower, make, count)
            for look in ("heights", "chairs", "fewest", "plan", "tallest"):
                self.assertEqual(getattr(again, look)(), getattr(hall, look)())
            self.assertEqual((again.makes, again.limit), (hall.makes, hall.limit))
            self.assertEqual([loan[1:] for loan in again.loans()], [loan[1:] for loan in hall.loans()])
            self.assertEqual([trial[1:] for trial in again.record().trials()],
                             [trial[1:] for trial in hall.record().trials()])

    def check_looks(self, hall):
        before = told(hall)
        order, chairs, heights = least(hall.record()), hall.chairs(), hall.heights()
        stacks, spread = fewest_stacks(order, chairs)
        self.assertEqual(hall.fewest(), len(spread))
        plan = hall.plan()
        self.assertEqual(plan, [[chairs[at] for at in piece] for piece in cut_stacks(stacks, hall.limit)])
        self.assertEqual(sorted(make for piece in plan for make in piece), sorted(chairs))
        self.assertTrue(all(1 <= len(piece) <= hall.limit for piece in plan))
        height, stack = hall.tallest()
        self.assertTrue(all(order.sits(upper, lower) for piece in [*plan, stack] for lower, upper in zip(piece, piece[1:])))
        self.assertEqual(sum(heights[make] for make in stack), height)
        self.assertTrue(all(stack.count(make) <= chairs.count(make) for make in stack))
        # The levels show that no stack is taller.
        rest = list(range(len(chairs)))
        places = [rest.pop([chairs[at] for at in rest].index(make)) for make in stack]
        levels = [sum(heights[chairs[at]] for at in self.below(order, chairs, heights, top)) for top in range(len(chairs))]
        self.assertIs(check_tallest(order, chairs, heights, height, places, levels), True)
        self.assertEqual(told(hall), before)

    def below(self, order, chairs, heights, top):
        """A highest stack in the sequence of ranks with this chair on top, found anew."""
        def ranks(one, two):
            return order.sits(chairs[one], chairs[two]) and (one > two or not order.sits(chairs[two], chairs[one]))

        best = {}
        for chair in sorted(range(len(chairs)), key=lambda one: sum(ranks(one, two) for two in range(len(chairs)))):
            under = [best[other] for other in best if ranks(chair, other)]
            best[chair] = max(under, key=lambda some: sum(heights[chairs[at]] for at in some), default=[]) + [chair]
        return best[top]


if __name__ == "__main__":
    unittest.main()
