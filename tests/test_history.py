"""Points 2 and 49: undo, redo and copies of a hall."""

import random
import unittest

from caught import check_raises
from chairstack import errors
from chairstack.hall import Hall
from plain_hall import told
from test_hall import random_call, stocked

THREE = ["oak", "ash", "elm"]

# For each kind of deed a call that a stocked hall carries out.
DEEDS = (
    ("add_make", ("fir",), {}),
    ("add_make", ("fir",), {"height": 9}),
    ("note", ("refuses", "elm", "oak"), {}),
    ("note", ("sits", "ash", "oak"), {}),
    ("saw", ("oak", "ash", "elm"), {}),
    ("saw", ("elm", "elm"), {}),
    ("retract", (1,), {}),
    ("bring", (("oak", 1), ("elm", 2)), {"ash": 3}),
    ("bring", (), {"oak": 1}),
    ("scrap", ("oak", 2), {}),
    ("lend", ("carl", "ash", 1), {}),
    ("give_back", (1,), {}),
    ("give_back", (1, 2), {}),
    ("give_back", (2, None), {}),
    ("change_limit", (3,), {}),
    ("change_limit", (10,), {}),
)

# Calls that a stocked hall carries out although they are no deeds, and calls that raise an error.
NO_DEEDS = (
    ("saw", (), {}),
    ("saw", ("oak",), {}),
    ("bring", (), {}),
)
WRONG_CALLS = (
    ("add_make", ("Fir",), {}),
    ("add_make", ("oak",), {}),
    ("add_make", ("fir",), {"height": 0}),
    ("note", ("open", "oak", "ash"), {}),
    ("note", ("sits", "oak", "fir"), {}),
    ("note", ("refuses", "ash", "oak"), {}),
    ("saw", ("fir",), {}),
    ("saw", ["oak"] * 62, {}),
    ("retract", (7,), {}),
    ("bring", (("oak", 1), ("fir", 1)), {}),
    ("bring", (("oak", 1),), {"ash": 0}),
    ("bring", (("oak", 60),), {}),
    ("scrap", ("oak", 3), {}),
    ("lend", ("Carl", "oak", 1), {}),
    ("lend", ("carl", "oak", 3), {}),
    ("give_back", (3,), {}),
    ("give_back", (1, 4), {}),
    ("give_back", (1, 0), {}),
    ("change_limit", (0,), {}),
    ("counts", ("fir",), {}),
)


def call(hall, deed):
    name, arguments, more = deed
    return getattr(hall, name)(*arguments, **more)


class EachDeed(unittest.TestCase):
    def test_undo_and_redo(self):
        for deed in DEEDS:
            with self.subTest(deed):
                hall = stocked()
                (before, undo_count, redo_count) = told(hall)
                returned = call(hall, deed)
                after, *counts = told(hall)
                self.assertEqual(counts, [undo_count + 1, redo_count])
                for _ in range(2):
                    self.assertIsNone(hall.undo())
                    self.assertEqual(told(hall), (before, undo_count, 1))
                    self.assertIsNone(hall.redo())
                    self.assertEqual(told(hall), (after, undo_count + 1, 0))
                hall.undo()
                # The numbers of trials and loans are given again.
                self.assertEqual(call(hall, deed), returned)
                self.assertEqual(told(hall), (after, undo_count + 1, 0))

    def test_a_new_deed_forgets_what_was_taken_back(self):
        for deed in DEEDS:
            with self.subTest(deed):
                hall = stocked()
                hall.bring(elm=1)
                hall.bring(elm=2)
                many = hall.undo_count
                hall.undo()
                hall.undo()
                self.assertEqual((hall.undo_count, hall.redo_count), (many - 2, 2))
                call(hall, deed)
                self.assertEqual((hall.undo_count, hall.redo_count), (many - 1, 0))
                check_raises(self, errors.NothingToRedo, {}, hall.redo)

    def test_what_is_no_deed_forgets_nothing(self):
        for deed in NO_DEEDS + WRONG_CALLS:
            with self.subTest(deed):
                hall = stocked()
                hall.bring(elm=1)
                after = told(hall)
                hall.undo()
                before = told(hall)
                if deed in NO_DEEDS:
                    call(hall, deed)
                else:
                    with self.assertRaises(errors.ChairError):
                        call(hall, deed)
                self.assertEqual(told(hall), before)
                hall.redo()
                self.assertEqual(told(hall), after)

    def test_looks_forget_nothing(self):
        hall = stocked()
        hall.undo()
        before = told(hall)
        for look in ("record", "heights", "loans", "chairs", "fewest", "plan", "tallest", "copy"):
            getattr(hall, look)()
        hall.counts("oak")
        self.assertEqual(told(hall), before)

    def test_an_assigned_limit_is_a_deed(self):
        hall = Hall("oak", limit=4)
        for value in (4, 5):
            hall.limit = value
        self.assertEqual(hall.undo_count, 2)
        hall.undo()
        self.assertEqual((hall.limit, hall.undo_count, hall.redo_count), (4, 1, 1))
        with self.assertRaises(errors.InvalidNumber):
            hall.limit = 0
        self.assertEqual((hall.limit, hall.undo_count, hall.redo_count), (4, 1, 1))
        hall.limit = 4
        self.assertEqual((hall.limit, hall.undo_count, hall.redo_count), (4, 2, 0))


class Whole(unittest.TestCase):
    def test_nothing_to_undo_or_redo(self):
        hall = Hall("oak")
        check_raises(self, errors.NothingToUndo, {}, hall.undo)
        check_raises(self, errors.NothingToRedo, {}, hall.redo)
        hall.bring(oak=1)
        check_raises(self, errors.NothingToRedo, {}, hall.redo)
        hall.undo()
        check_raises(self, errors.NothingToUndo, {}, hall.undo)
        self.assertEqual((hall.undo_count, hall.redo_count), (0, 1))
        hall.redo()
        self.assertEqual(hall.chairs(), ["oak"])

    def test_all_the_way_back_and_forth(self):
        for seed in range(12):
            source = random.Random(seed)
            hall = Hall(*THREE)
            moments = [told(hall)[0]]
            while len(moments) < 40:
                name, arguments, more = random_call(source, hall.makes)
                if name in ("undo", "redo"):
                    continue
                many = hall.undo_count
                try:
                    getattr(hall, name)(*arguments, **more)
                except errors.ChairError:
                    pass
                if hall.undo_count > many:
                    moments.append(told(hall)[0])
            self.walk(hall, moments, source)

    def walk(self, hall, moments, source):
        last = at = len(moments) - 1
        for step in (*[-1] * last, *[1] * last, *[source.choice((-1, 1)) for _ in range(60)]):
            if 0 <= at + step <= last:
                hall.undo() if step < 0 else hall.redo()
                at += step
            self.assertEqual(told(hall), (moments[at], at, last - at))

    def test_next_numbers(self):
        hall = stocked()
        numbers = [hall.note("sits", "elm", "oak"), hall.lend("carl", "ash", 1)]
        hall.undo()
        hall.undo()
        self.assertEqual([hall.note("sits", "oak", "oak"), hall.lend("dora", "oak", 1)], numbers)
        hall.retract(numbers[0])
        hall.give_back(numbers[1])
        self.assertEqual(hall.note("sits", "oak", "oak"), numbers[0] + 1)
        for _ in range(3):
            hall.undo()
        self.assertEqual(hall.loans()[-1], (numbers[1], "dora", "oak", 1))
        self.assertEqual(hall.record().trials()[-1], (numbers[0], "sits", "oak", "oak"))
        self.assertEqual(hall.note("sits", "oak", "oak"), numbers[0] + 1)

    def test_more_than_a_thousand_deeds(self):
        hall = Hall("oak", "ash")
        for at in range(1200):
            hall.note("sits", "ash", "oak")
            hall.retract(at + 1)
        self.assertEqual((hall.undo_count, hall.record().trials()), (2400, []))
        for _ in range(2399):
            hall.undo()
        self.assertEqual(hall.record().trials(), [(1, "sits", "ash", "oak")])
        for _ in range(2399):
            hall.redo()
        self.assertEqual((hall.undo_count, hall.note("sits", "ash", "oak")), (2400, 1201))


class Copies(unittest.TestCase):
    def test_same_content_and_history(self):
        hall = stocked()
        hall.bring(elm=1)
        hall.change_limit(4)
        hall.undo()
        twin = hall.copy()
        self.assertIs(type(twin), Hall)
        self.assertEqual(told(twin), told(hall))
        while hall.redo_count:
            hall.redo()
            twin.redo()
            self.assertEqual(told(twin), told(hall))
        while hall.undo_count:
            hall.undo()
            twin.undo()
            self.assertEqual(told(twin), told(hall))

    def test_they_go_their_own_ways(self):
        for deed in DEEDS:
            hall = stocked()
            hall.undo()
            before = told(hall)
            twin = hall.copy()
            call(twin, DEEDS[2])
            self.assertEqual((told(hall), twin.redo_count), (before, 0))
            after = told(twin)
            try:
                call(hall, deed)
            except errors.ChairError:
                pass
            self.assertEqual(told(twin), after)
            while hall.undo_count:
                hall.undo()
            self.assertEqual(told(twin), after)
            twin.undo()
            self.assertEqual(told(twin), (before[0], before[1], 1))
            while hall.redo_count:
                hall.redo()
            while twin.undo_count:
                twin.undo()
            self.assertEqual(twin.chairs(), [])

    def test_undo_in_one_and_a_deed_in_the_other(self):
        hall = stocked()
        twin = hall.copy()
        hall.undo()
        self.assertEqual((hall.redo_count, twin.redo_count), (1, 0))
        twin.retract(1)
        hall.redo()
        self.assertEqual((len(hall.record().trials()), len(twin.record().trials())), (1, 0))
        twin.undo()
        hall.retract(1)
        self.assertEqual((len(hall.record().trials()), len(twin.record().trials())), (0, 1))
        third = twin.copy()
        third.redo()
        self.assertEqual((len(third.record().trials()), len(twin.record().trials())), (0, 1))


if __name__ == "__main__":
    unittest.main()
