"""Points 2 and 50 to 52: the desk."""

import random
import re
import unittest

from caught import check_raises
from chairstack import errors
from chairstack.desk import Desk
from chairstack.hall import Hall
from chairstack.queries import next_trial
from chairstack.verdicts import verdict
from plain_hall import told
from test_hall import stocked

THREE = ["oak", "ash", "elm"]
NUMBER = "(?:0|[1-9][0-9]{0,8})"
WORD = "[^ ]+"

# The forms of point 50, as regular expressions.
FORMS = (
    f"make {WORD}", f"make {WORD} {NUMBER}", f"sits {WORD} {WORD}", f"refuses {WORD} {WORD}",
    f"saw {WORD}(?: {WORD})+", f"retract {NUMBER}", f"ask {WORD} {WORD}", "next", f"bring {WORD} {NUMBER}",
    f"scrap {WORD} {NUMBER}", f"lend {WORD} {WORD} {NUMBER}", f"back {NUMBER}", f"back {NUMBER} {NUMBER}",
    f"limit {NUMBER}", f"count {WORD}", "fewest", "tall", "undo", "redo",
)
FIRST_WORDS = (
    "make", "sits", "refuses", "saw", "retract", "ask", "next", "bring", "scrap", "lend", "back", "limit", "count",
    "fewest", "tall", "undo", "redo",
)

# Each form on its own, with a row that a stocked hall carries out.
RIGHT_ROWS = (
    "make fir", "make fir 1000", "sits elm oak", "refuses elm oak", "saw oak elm", "saw oak ash oak ash", "retract 1",
    "ask ash oak", "next", "bring elm 2", "scrap oak 2", "lend carl ash 1", "back 1", "back 1 2", "limit 60",
    "count ash", "fewest", "tall", "undo",
)
WRONG_NUMBERS = (
    "-1", "+1", "01", "00", "007", "1234567890", "0000000001", "1.0", "1_0", "0x1", "one", "1a", "a1", "O", "1,", "''",
)
WRONG_ROWS = (
    "", " ", "  ", "oak", "Make fir", "MAKE fir", "undo ", " undo", "undo  ", "undo undo", "undo 1", "redo oak",
    "next oak", "next 1", "fewest 1", "tall oak", "tallest", "settled", "ok", "plan", "heights", "saw", "saw oak",
    "saw ", "saw  oak", "saw oak ", "saw oak  ash", "saw oak ash ", " saw oak ash", "make", "make ", "make  ",
    "make fir 3 4", "make fir elm", "make fir ", "make  fir", "make  3", "sits", "sits oak", "sits oak ash elm",
    "sits oak ", "sits  oak", "sits oak  ash", "refuses ash", "refuses ash oak 1", "Sits ash oak", "note sits ash oak",
    "retract", "retract one", "retract 1 2", "retract ", "ask", "ask oak", "ask oak ash elm", "ask oak ", "bring",
    "bring oak", "bring oak ash", "bring oak 1 ash 1", "bring 1 oak", "bring oak ", "scrap oak", "scrap oak 1 1",
    "scrap oak oak", "lend", "lend anna oak", "lend oak 1", "lend anna oak 1 1", "lend anna 1 oak", "lend anna  oak 1",
    "back", "back ", "back oak", "back 1 2 3", "back 1 oak", "back 1 ", "back  1", "limit", "limit oak", "limit 1 2",
    "limit ", "count", "count ", "count oak ash", "count  oak", "sits,ash,oak", "undo;", "run undo", "undo\t",
)


def has_form(row):
    return any(re.fullmatch(form, row) for form in FORMS)


def state_of(desk, hall):
    return told(hall), desk.rows_run


class Forms(unittest.TestCase):
    """Point 51."""

    def check_invalid(self, row):
        for make_hall in (stocked, Hall):
            hall = make_hall()
            desk = Desk(hall)
            if hall.makes:
                hall.undo()
            before = state_of(desk, hall)
            with self.subTest(row):
                self.assertFalse(has_form(row))
                check_raises(self, errors.InvalidRow, {"row": row}, desk.run, row)
                check_raises(self, errors.InvalidRow, {"row": row}, desk, row)
                self.assertEqual(state_of(desk, hall), before)

    def test_wrong_rows(self):
        for row in WRONG_ROWS:
            self.check_invalid(row)

    def test_wrong_numbers(self):
        for number in WRONG_NUMBERS:
            for row in (
                f"make fir {number}", f"retract {number}", f"bring oak {number}", f"scrap oak {number}",
                f"lend anna oak {number}", f"back {number}", f"back {number} 1", f"back 1 {number}", f"limit {number}",
            ):
                self.check_invalid(row)

    def test_the_form_comes_before_anything_else(self):
        for row in ("make Fir 01", "sits fir", "lend Anna fir -1", "scrap fir ", "bring fir 0x", "back 9 00", "ask fir"):
            self.check_invalid(row)

    def test_right_numbers(self):
        for number in (0, 9, 10, 100, 1000, 123456789, 999999999):
            desk = Desk(stocked())
            check_raises(self, errors.UnknownTrial, {"number": number}, desk, f"retract {number}")
            check_raises(self, errors.UnknownLoan, {"number": number}, desk, f"back {number}")
            check_raises(self, errors.UnknownLoan, {"number": number}, desk, f"back {number} 0")
            if number > 60:
                check_raises(self, errors.InvalidNumber, {"number": number}, desk, f"limit {number}")
        for row in ("back 1 0", "limit 0", "make fir 0", "bring oak 0", "scrap oak 0", "lend anna oak 0"):
            check_raises(self, errors.InvalidNumber, {"number": 0}, Desk(stocked()), row)

    def test_random_rows(self):
        source = random.Random(51)
        words = (*FIRST_WORDS, *FIRST_WORDS, "oak", "ash", "elm", "1", "2", "0", "01", "", "-1", "Oak", "1234567890")
        seen = {True: 0, False: 0}
        hall = stocked()
        for _ in range(6000):
            row = " ".join([source.choice(FIRST_WORDS), *(source.choice(words) for _ in range(source.randrange(4)))])
            if source.random() < 0.05:
                row = source.choice((" " + row, row + " ", row.upper()))
            desk = Desk(hall.copy())
            invalid = False
            try:
                desk.run(row)
            except errors.InvalidRow as error:
                invalid = True
                self.assertEqual(error.row, row)
            except errors.ChairError:
                pass
            self.assertEqual(invalid, not has_form(row), row)
            seen[invalid] += 1
        self.assertGreater(min(seen.values()), 500, seen)

    def test_other_words_are_passed_on_as_they_are(self):
        desk = Desk(stocked())
        for row, kind, attributes in (
            ("make Fir", errors.InvalidName, {"name": "Fir"}),
            ("make a-b 3", errors.InvalidName, {"name": "a-b"}),
            ("make 3", errors.InvalidName, {"name": "3"}),
            ("sits ~ oak", errors.UnknownMake, {"name": "~"}),
            ("refuses oak 01", errors.UnknownMake, {"name": "01"}),
            ("saw oak -1", errors.UnknownMake, {"name": "-1"}),
            ("ask Oak oak", errors.UnknownMake, {"name": "Oak"}),
            ("count self", errors.UnknownMake, {"name": "self"}),
            ("lend Anna oak 1", errors.InvalidName, {"name": "Anna"}),
            ("lend 1 1 1", errors.InvalidName, {"name": "1"}),
            ("bring oak, 1", errors.UnknownMake, {"name": "oak,"}),
        ):
            check_raises(self, kind, attributes, desk, row)
        self.assertEqual(desk.rows_run, 0)


class Replies(unittest.TestCase):
    """Point 50."""

    def test_each_form(self):
        hall = Hall("oak", "ash")
        desk = Desk(hall)
        rows = (
            ("make elm", "ok"), ("make fir 7", "ok"), ("sits ash oak", "trial 1"), ("refuses elm oak", "trial 2"),
            ("saw oak ash ash", "trials 3 4"), ("saw ash fir", "trials 5"), ("retract 2", "ok"),
            ("ask fir oak", "sits"), ("ask elm oak", "open"), ("refuses oak fir", "trial 6"), ("ask oak fir", "refuses"),
            ("bring oak 3", "ok"), ("bring fir 2", "ok"), ("scrap oak 1", "ok"), ("count oak", "2 2 0"),
            ("lend anna oak 2", "loan 1"), ("lend bert fir 1", "loan 2"), ("count oak", "2 0 2"),
            ("back 1 1", "ok"), ("count oak", "2 1 1"), ("back 1", "ok"), ("count oak", "2 2 0"),
            ("limit 1", "ok"), ("fewest", "1"), ("tall", "9"), ("undo", "ok"), ("redo", "ok"), ("make yew", "ok"),
        )
        for at, (row, reply) in enumerate(rows):
            self.assertEqual(desk.rows_run, at)
            self.assertEqual((desk.run if at % 2 else desk)(row), reply, row)
        self.assertEqual(hall.makes, ("oak", "ash", "elm", "fir", "yew"))
        self.assertEqual(list(hall.heights().items()), [("oak", 1), ("ash", 1), ("elm", 1), ("fir", 7), ("yew", 1)])
        self.assertEqual((hall.limit, hall.undo_count), (1, 17))
        self.assertEqual(hall.loans(), [(2, "bert", "fir", 1)])

    def test_rows_do_what_the_methods_do(self):
        for row, name, arguments, more in (
            ("make fir", "add_make", ("fir",), {}),
            ("make fir 9", "add_make", ("fir",), {"height": 9}),
            ("make oak 0", "add_make", ("oak",), {"height": 0}),
            ("make fir 1001", "add_make", ("fir",), {"height": 1001}),
            ("sits elm oak", "note", ("sits", "elm", "oak"), {}),
            ("refuses ash oak", "note", ("refuses", "ash", "oak"), {}),
            ("refuses elm oak", "note", ("refuses", "elm", "oak"), {}),
            ("saw elm oak ash", "saw", ("elm", "oak", "ash"), {}),
            ("saw elm oak fir", "saw", ("elm", "oak", "fir"), {}),
            ("retract 1", "retract", (1,), {}),
            ("retract 2", "retract", (2,), {}),
            ("bring ash 5", "bring", (("ash", 5),), {}),
            ("bring ash 54", "bring", (("ash", 54),), {}),
            ("bring ash 0", "bring", (("ash", 0),), {}),
            ("scrap ash 1", "scrap", ("ash", 1), {}),
            ("scrap ash 2", "scrap", ("ash", 2), {}),
            ("lend carl oak 2", "lend", ("carl", "oak", 2), {}),
            ("lend carl oak 3", "lend", ("carl", "oak", 3), {}),
            ("back 1", "give_back", (1,), {}),
            ("back 1 3", "give_back", (1, 3), {}),
            ("back 1 4", "give_back", (1, 4), {}),
            ("back 3", "give_back", (3,), {}),
            ("limit 3", "change_limit", (3,), {}),
            ("limit 61", "change_limit", (61,), {}),
            ("undo", "undo", (), {}),
            ("redo", "redo", (), {}),
            ("count fir", "counts", ("fir",), {}),
        ):
            with self.subTest(row):
                hall, twin = stocked(), stocked()
                desk = Desk(hall)
                try:
                    getattr(twin, name)(*arguments, **more)
                    desk.run(row)
                except errors.ChairError as error:
                    check_raises(self, type(error), vars(error), desk.run, row)
                self.assertEqual(told(hall), told(twin))

    def test_looking_rows(self):
        hall = stocked()
        desk = Desk(hall)
        hall.note("refuses", "elm", "oak")
        before = told(hall)
        record = hall.record()
        for upper in THREE:
            for lower in THREE:
                self.assertEqual(desk(f"ask {upper} {lower}"), verdict(record, upper, lower))
        self.assertEqual(desk("next"), " ".join(next_trial(record)))
        for make in THREE:
            self.assertEqual(desk(f"count {make}"), " ".join(map(str, hall.counts(make))))
        self.assertEqual((desk("fewest"), desk("tall")), (str(hall.fewest()), str(hall.tallest()[0])))
        self.assertEqual((told(hall), desk.rows_run), (before, 9 + 1 + 3 + 2))

    def test_settled(self):
        self.assertEqual([Desk(Hall())("next"), Desk(Hall("oak"))("next")], ["settled", "settled"])
        desk = Desk(Hall("oak", "ash"))
        replies = [desk(row) for row in ("next", "sits oak ash", "next", "refuses ash oak", "next")]
        self.assertEqual(replies, ["oak ash", "trial 1", "ash oak", "trial 2", "settled"])

    def test_an_empty_hall(self):
        desk = Desk(Hall())
        self.assertEqual([desk("fewest"), desk("tall"), desk("next")], ["0", "0", "settled"])
        check_raises(self, errors.NothingToUndo, {}, desk, "undo")
        check_raises(self, errors.NothingToRedo, {}, desk, "redo")
        check_raises(self, errors.UnknownMake, {"name": "oak"}, desk, "count oak")

    def test_long_sights(self):
        desk = Desk(Hall("oak"))
        self.assertEqual(desk("saw" + " oak" * 61), "trials " + " ".join(map(str, range(1, 61))))
        check_raises(self, errors.Full, {"most": 60}, desk, "saw oak oak")

    def test_a_desk_works_on_its_very_hall(self):
        hall = Hall("oak")
        one, two = Desk(hall), Desk(hall)
        one("bring oak 2")
        hall.lend("anna", "oak", 1)
        self.assertEqual([two("count oak"), two("back 1"), one("count oak")], ["2 1 1", "ok", "2 2 0"])
        two("undo")
        self.assertEqual(hall.loans(), [(1, "anna", "oak", 1)])
        self.assertEqual((one.rows_run, two.rows_run, hall.redo_count), (2, 3, 1))

    def test_rows_run(self):
        hall = Hall("oak")
        desk = Desk(hall)
        self.assertEqual(desk.rows_run, 0)
        for row in ("undo", "bring fir 1", "bring oak", "ask oak fir"):
            with self.assertRaises(errors.ChairError):
                desk(row)
        self.assertEqual(desk.rows_run, 0)
        for row in ("bring oak 1", "undo", "redo", "fewest", "ask oak oak"):
            desk(row)
        self.assertEqual((desk.rows_run, Desk(hall).rows_run), (5, 0))
        with self.assertRaises(AttributeError):
            desk.rows_run = 0


class Several(unittest.TestCase):
    """Point 52."""

    def test_all_rows(self):
        hall = stocked()
        desk = Desk(hall)
        rows = ["make fir", "sits fir oak", "next", "undo", "redo", "count ash", "back 1"]
        told_by_one = [Desk(stocked()).run_all(rows[:at]) for at in range(len(rows) + 1)]
        self.assertEqual(desk.run_all(rows), told_by_one[-1])
        self.assertEqual([len(replies) for replies in told_by_one], list(range(len(rows) + 1)))
        self.assertEqual(desk.rows_run, 7)
        self.assertEqual(rows, ["make fir", "sits fir oak", "next", "undo", "redo", "count ash", "back 1"])
        twin = Desk(stocked())
        self.assertEqual([twin(row) for row in rows], told_by_one[-1])

    def test_no_rows(self):
        hall = stocked()
        desk = Desk(hall)
        before = state_of(desk, hall)
        self.assertEqual(desk.run_all([]), [])
        self.assertEqual(state_of(desk, hall), before)

    def check_failure(self, rows, index):
        hall = stocked()
        desk, other = Desk(hall), Desk(hall)
        for row in ("bring elm 2", "limit 3", "undo", "undo", "redo"):
            desk(row)
        other("fewest")
        before = state_of(desk, hall)
        with self.subTest(rows):
            check_raises(self, errors.RowFailed, {"row_index": index}, desk.run_all, rows)
            self.assertEqual(state_of(desk, hall), before)
            self.assertEqual(other.rows_run, 1)
            self.check_the_whole_history(hall)
            # The desk goes on with the very hall.
            self.assertEqual(other("bring oak 1"), "ok")
            self.assertEqual((hall.counts("oak"), desk("count oak")), ((4, 3, 1), "4 3 1"))

    def check_the_whole_history(self, hall):
        twin, plain = hall.copy(), stocked()
        plain.bring(elm=2)
        plain.limit = 3
        plain.undo()
        self.assertEqual(told(twin), told(plain))
        for step in ["redo"] + ["undo"] * plain.copy().undo_count:
            getattr(twin, step)()
            getattr(plain, step)()
            self.assertEqual(told(twin), told(plain))

    def test_failures(self):
        good = ["make fir", "sits fir oak", "bring fir 2", "lend carl fir 1", "back 1 1", "retract 1", "limit 2", "next"]
        turns = ["undo", "undo", "undo", "redo", "bring oak 1", "undo", "redo", "undo", "undo"]
        for bad in ("bring yew 1", "refuses oak oak", "nonsense", "", "retract 99", "limit 61", "saw oak", "scrap ash 9"):
            for rows in (good, turns, good + turns, turns + good):
                for at in (0, 1, len(rows) // 2, len(rows)):
                    self.check_failure(rows[:at] + [bad] + rows[at:], at)

    def test_too_many_undos(self):
        self.check_failure(["undo"] * 6, 5)
        self.check_failure(["redo"] * 2, 1)
        self.check_failure(["undo"] * 5 + ["redo"] * 7, 11)
        self.check_failure(["bring oak 1", "redo"], 1)

    def test_the_first_failing_row_counts(self):
        self.check_failure(["fewest", "make Fir", "", "undo undo"], 1)
        self.check_failure(["bring yew 1"] * 3, 0)

    def test_two_desks_on_one_hall(self):
        hall = Hall("oak")
        one, two = Desk(hall), Desk(hall)
        one.run_all(["bring oak 1", "bring oak 2"])
        check_raises(self, errors.RowFailed, {"row_index": 2}, two.run_all, ["undo", "bring oak 9", "scrap oak 11"])
        self.assertEqual((one.rows_run, two.rows_run, hall.counts("oak")), (2, 0, (3, 3, 0)))
        two("undo")
        self.assertEqual(one.run_all(["redo", "count oak"]), ["ok", "3 3 0"])
        self.assertEqual((one.rows_run, two.rows_run), (4, 1))

    def test_an_earlier_copy_of_the_hall_stays_as_it_is(self):
        hall = stocked()
        twin = hall.copy()
        before = told(twin)
        check_raises(self, errors.RowFailed, {"row_index": 2}, Desk(hall).run_all, ["undo", "make fir", "oops"])
        Desk(hall).run_all(["undo", "make fir"])
        self.assertEqual(told(twin), before)

    def test_random_rows(self):
        source = random.Random(52)
        failed = 0
        for _ in range(150):
            hall, twin = stocked(), stocked()
            desk, plain = Desk(hall), Desk(twin)
            for _ in range(3):
                rows = [source.choice(RIGHT_ROWS) for _ in range(source.randrange(5))]
                before, replies = state_of(desk, hall), []
                kept = twin.copy()
                try:
                    for row in rows:
                        replies.append(plain(row))
                except errors.ChairError:
                    failed += 1
                    check_raises(self, errors.RowFailed, {"row_index": len(replies)}, desk.run_all, rows)
                    self.assertEqual(state_of(desk, hall), before)
                    twin, plain = kept, Desk(kept)
                else:
                    self.assertEqual(desk.run_all(rows), replies)
                    self.assertEqual(desk.rows_run, before[1] + len(rows))
                    self.assertEqual(told(hall), told(twin))
        self.assertGreater(failed, 30)

    def test_right_rows_are_right(self):
        for row in RIGHT_ROWS:
            self.assertTrue(has_form(row), row)
            self.assertIs(type(Desk(stocked()).run(row)), str)
        self.assertEqual({row.split()[0] for row in RIGHT_ROWS} | {"redo"}, set(FIRST_WORDS))


if __name__ == "__main__":
    unittest.main()
