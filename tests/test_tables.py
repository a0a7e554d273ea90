"""Points 2 and 53: tables."""

import unittest

from caught import state
from chairstack.hall import Hall
from chairstack.queries import gains
from chairstack.records import Record
from chairstack.tables import gain_table, loan_table, verdict_table
from chairstack.verdicts import open_pairs, verdict
from plain import WOODS
from plain_hall import told
from test_hall import random_hall
from test_records import noted, random_records, settings_of_three

THREE = ["oak", "ash", "elm"]
LONG = ["a", "abcdefghijkl", "bc", "lkjihgfedcba"]
SIGNS = {"sits": "+", "refuses": "-", "open": "?"}


def every_record():
    for trials in settings_of_three():
        yield noted(trials, THREE)
    yield from random_records(20, LONG, 8, 5300)
    yield from random_records(6, WOODS, 60, 5400)
    yield from (Record(), Record("oak"), Record("abcdefghijkl"), Record(*WOODS))


class Verdicts(unittest.TestCase):
    def test_every_place(self):
        for record in every_record():
            before, makes = state(record), record.makes
            table = verdict_table(record)
            self.assertIs(type(table), list)
            self.assertEqual([len(line) for line in table], [12 + 2 * len(makes)] * len(makes))
            for upper, line in zip(makes, table):
                self.assertEqual(line[:12], upper + " " * (12 - len(upper)))
                self.assertEqual(line[12::2], " " * len(makes))
                self.assertEqual(list(line[13::2]), [SIGNS[verdict(record, upper, lower)] for lower in makes])
            self.assertEqual(state(record), before)

    def test_lines(self):
        record = Record(*LONG)
        record.note("sits", "abcdefghijkl", "a")
        record.note("refuses", "bc", "a")
        self.assertEqual(verdict_table(record), [
            "a            + ? ? ?",
            "abcdefghijkl + + ? ?",
            "bc           - - + ?",
            "lkjihgfedcba ? ? ? +",
        ])
        self.assertEqual((verdict_table(Record()), verdict_table(Record("a"))), ([], ["a            +"]))

    def test_a_record_made_again_from_its_table(self):
        for record in every_record():
            makes, again = record.makes, Record(*record.makes)
            if len(makes) == 12:
                # A table of twelve makes may tell more than 60 trials can.
                continue
            for upper, line in zip(makes, verdict_table(record)):
                for lower, sign in zip(makes, line[13::2]):
                    # A settled pair that the trials so far settle already needs no trial.
                    if sign != "?" and verdict(again, upper, lower) == "open":
                        again.note("sits" if sign == "+" else "refuses", upper, lower)
            self.assertEqual(verdict_table(again), verdict_table(record))
            self.assertEqual(gain_table(again), gain_table(record))

    def test_a_full_record(self):
        record = Record(*THREE)
        for _ in range(60):
            record.note("sits", "ash", "oak")
        self.assertEqual(verdict_table(record), ["oak          + ? ?", "ash          + + ?", "elm          ? ? +"])
        self.assertEqual(len(gain_table(record)), 5)


class Gains(unittest.TestCase):
    def test_every_line(self):
        for record in every_record():
            before = state(record)
            table, rows = gain_table(record), list(gains(record))
            self.assertIs(type(table), list)
            self.assertEqual([(line[:12].strip(), line[13:25].strip()) for line in table], list(open_pairs(record)))
            for line, (upper, lower, if_sits, if_refuses) in zip(table, rows, strict=True):
                self.assertEqual(line, " ".join([
                    upper.ljust(12), lower.ljust(12), str(if_sits).rjust(3), str(if_refuses).rjust(3)
                ]))
                self.assertEqual(len(line), 33)
            self.assertEqual(state(record), before)

    def test_lines(self):
        record = Record("a", "abcdefghijkl")
        self.assertEqual(gain_table(record), [
            "a            abcdefghijkl   1   1",
            "abcdefghijkl a              1   1",
        ])
        record.note("sits", "a", "abcdefghijkl")
        self.assertEqual(gain_table(record), ["abcdefghijkl a              1   1"])
        record.note("refuses", "abcdefghijkl", "a")
        self.assertEqual((gain_table(record), gain_table(Record()), gain_table(Record("oak"))), ([], [], []))

    def test_gains_of_one_and_two_digits(self):
        record = Record(*WOODS)
        for lower, upper in zip(WOODS, WOODS[1:]):
            record.note("sits", upper, lower)
        table = gain_table(record)
        self.assertEqual((len(table), table[0]), (66, "oak          ash            1  11"))
        self.assertIn("oak          pear          66   1", table)

    def test_gains_of_three_digits(self):
        # Everything sits on the first make, and the last one on everything: if the first one sits on the
        # last one, all makes are alike.
        record = Record(*WOODS)
        for make in WOODS[1:-1]:
            record.saw(WOODS[0], make, WOODS[-1])
        table = gain_table(record)
        self.assertIn("oak          pear         111   1", table)
        self.assertEqual({len(line) for line in table}, {33})


class Loans(unittest.TestCase):
    def test_lines(self):
        hall = Hall("a", "abcdefghijkl")
        self.assertEqual(loan_table(hall), [])
        hall.bring(a=50, abcdefghijkl=10)
        hall.lend("b", "abcdefghijkl", 10)
        hall.lend("lkjihgfedcba", "a", 9)
        self.assertEqual(loan_table(hall), [
            "   1 b            abcdefghijkl  10",
            "   2 lkjihgfedcba a              9",
        ])
        hall.give_back(1, 3)
        self.assertEqual(loan_table(hall)[0], "   1 b            abcdefghijkl   7")
        hall.give_back(1)
        hall.give_back(2)
        self.assertEqual(loan_table(hall), [])

    def test_numbers_of_one_to_four_digits(self):
        hall = Hall("oak")
        hall.bring(oak=4)
        for number in range(1, 1001):
            self.assertEqual(hall.lend("anna", "oak", 1), number)
            if number not in (9, 99, 999, 1000):
                hall.give_back(number)
        self.assertEqual(loan_table(hall), [
            "   9 anna         oak            1",
            "  99 anna         oak            1",
            " 999 anna         oak            1",
            "1000 anna         oak            1",
        ])

    def test_every_line(self):
        seen = 0
        for seed in range(30):
            hall = random_hall(seed, LONG, 60)
            before, table = told(hall), loan_table(hall)
            expected = [
                " ".join([str(number).rjust(4), borrower.ljust(12), make.ljust(12), str(count).rjust(3)])
                for number, borrower, make, count in hall.loans()
            ]
            self.assertEqual((type(table), table), (list, expected))
            table.clear()
            self.assertEqual((told(hall), loan_table(hall)), (before, expected))
            seen += len(expected)
        self.assertGreater(seen, 10)


if __name__ == "__main__":
    unittest.main()
