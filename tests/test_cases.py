"""Points 2, 42 and 43: certificates of a DoubtfulRecord."""

import random
import unittest

from caught import check_raises
from chairstack.certificates import Certificate, OpenCertificate
from chairstack.doubt import CaseCertificate, DoubtfulRecord
from chairstack.errors import UnknownMake
from chairstack.orders import Order
from plain import WOODS, Judge
from test_doubt import all_state, doubtful_records

THREE = ["oak", "ash", "elm"]
JUDGES = {3: Judge(THREE), 4: Judge(WOODS[:4])}
OTHER = {"sits": "refuses", "refuses": "sits"}


def is_valid(record, opposite, node, aside=()):
    """Point 42, word by word."""
    judge, kept = JUDGES[len(record.makes)], record.trials()
    numbers, children = node
    return (
        len(set(numbers)) == len(numbers)
        and set(numbers) <= {trial[0] for trial in kept}
        and not set(numbers) & set(aside)
        and judge.excludes(kept, numbers, [opposite])
        and (
            children == []
            if len(aside) == record.most_misread
            else len(children) == len(numbers)
            and all(is_valid(record, opposite, child, (*aside, number)) for number, child in zip(numbers, children))
        )
    )


def holds(record, upper, lower, word, cases):
    known = upper in record.makes and lower in record.makes and word in OTHER
    return known and is_valid(record, (OTHER[word], upper, lower), cases)


def nodes(node, aside=()):
    """Each node of the tree, with the numbers that are set aside there."""
    numbers, children = node
    yield aside, numbers
    for number, child in zip(numbers, children):
        yield from nodes(child, (*aside, number))


def unfolded(node):
    """The tree as lists, which a test may change."""
    numbers, children = node
    return [list(numbers), [unfolded(child) for child in children]]


def folded(tree):
    numbers, children = tree
    return (list(numbers), [folded(child) for child in children])


def changed(source, node):
    """The tree with one small change somewhere."""
    tree = unfolded(node)
    at = tree
    while at[1] and source.random() < 0.6:
        at = source.choice(at[1])
    numbers, children = at
    kind = source.randrange(7)
    if kind == 0 and numbers:
        numbers[source.randrange(len(numbers))] = source.choice((0, -1, 1, 2, 3, 4, 5, 6, 10 ** 20))
    elif kind == 1:
        numbers.append(source.randrange(1, 9))
    elif kind == 2:
        numbers.reverse()
    elif kind == 3:
        children.reverse()
    elif kind == 4 and children:
        children.pop()
    elif kind == 5:
        children.append([[], []])
    elif numbers:
        numbers.pop()
    return folded(tree)


def doubled(most=1):
    """With one misread trial it is certain that ash sits on oak and that elm does not sit on ash."""
    record = DoubtfulRecord(*THREE, most_misread=most)
    for trial in (
        ("sits", "ash", "oak"),
        ("sits", "ash", "oak"),
        ("refuses", "elm", "oak"),
        ("refuses", "elm", "ash"),
        ("sits", "elm", "elm"),
    ):
        record.note(*trial)
    return record


class Certify(unittest.TestCase):
    """Point 43."""

    def check(self, record, seen):
        judge, before = JUDGES[len(record.makes)], all_state(record)
        for upper in record.makes:
            for lower in record.makes:
                word = record.verdict(upper, lower)
                paper = record.certify(upper, lower)
                self.assertEqual(paper.claim(), f"{upper} on {lower}: {word}")
                self.assertEqual((paper.upper, paper.lower), (upper, lower))
                self.assertIs(paper.holds(record), True)
                seen[word] += 1
                if word == "open":
                    self.check_open(record, paper)
                else:
                    self.check_cases(judge, record, paper, word)
        self.assertEqual(all_state(record), before)

    def check_open(self, record, paper):
        self.assertIs(type(paper), OpenCertificate)
        self.assertTrue(record.admits(paper.lacking) and record.admits(paper.having))
        self.assertFalse(paper.lacking.sits(paper.upper, paper.lower))
        self.assertTrue(paper.having.sits(paper.upper, paper.lower))

    def check_cases(self, judge, record, paper, word):
        self.assertIs(type(paper), CaseCertificate)
        self.assertEqual((paper.CLAIM, paper.word), ("cases", word))
        self.assertTrue(holds(record, paper.upper, paper.lower, word, paper.cases))
        opposite = (OTHER[word], paper.upper, paper.lower)
        for aside, numbers in nodes(paper.cases):
            left = [trial for trial in record.trials() if trial[0] not in aside]
            self.assertEqual(numbers, sorted(numbers))
            self.assertEqual(len(numbers), judge.shortest_conflict(left, [opposite]))

    def test_three_makes(self):
        seen = {"sits": 0, "refuses": 0, "open": 0}
        for record in doubtful_records(80, THREE, 20, 500):
            self.check(record, seen)
        self.assertGreater(min(seen.values()), 50, seen)

    def test_four_makes(self):
        seen = {"sits": 0, "refuses": 0, "open": 0}
        for record in doubtful_records(9, WOODS[:4], 14, 504):
            self.check(record, seen)
        self.assertGreater(min(seen.values()), 5, seen)

    def test_every_number_of_doubt(self):
        record = DoubtfulRecord("oak", "ash")
        for many in range(1, 5):
            record.note("sits", "ash", "oak")
            for most in range(4):
                record.most_misread = most
                paper = record.certify("ash", "oak")
                self.assertEqual(paper.claim(), "ash on oak: " + ("sits" if many > most else "open"))
                if many > most:
                    self.assertEqual([len(numbers) for _, numbers in nodes(paper.cases)], [1] * (most + 1))

    def test_a_make_with_itself(self):
        for most in range(4):
            record = DoubtfulRecord("oak", most_misread=most)
            paper = record.certify("oak", "oak")
            self.assertEqual((paper.claim(), paper.cases), ("oak on oak: sits", ([], [])))
            self.assertIs(paper.holds(record), True)

    def test_a_conflict_without_the_opposite_trial(self):
        record = DoubtfulRecord(*THREE)
        record.note("refuses", "oak", "oak")
        record.note("sits", "ash", "oak")
        paper = record.certify("ash", "oak")
        self.assertEqual((paper.claim(), len(paper.cases[0])), ("ash on oak: sits", 1))
        self.assertIs(paper.holds(record), True)
        self.assertIs(CaseCertificate("ash", "oak", "sits", ([1], [([2], [])])).holds(record), True)
        self.assertIs(CaseCertificate("ash", "oak", "sits", ([2], [([1], [])])).holds(record), True)

    def test_unknown_makes(self):
        record = doubled()
        check_raises(self, UnknownMake, {"name": "fir"}, record.certify, "fir", "yew")
        check_raises(self, UnknownMake, {"name": "yew"}, record.certify, "oak", "yew")
        check_raises(self, UnknownMake, {"name": "fir"}, record.certify, "fir", "oak")

    def test_long_conflicts_of_twelve_makes(self):
        record = DoubtfulRecord(*WOODS, most_misread=2)
        for _ in range(3):
            for lower, upper in zip(WOODS, WOODS[1:]):
                record.note("sits", upper, lower)
        paper = record.certify("pear", "oak")
        found = list(nodes(paper.cases))
        self.assertEqual((len(found), {len(numbers) for _, numbers in found}), (1 + 11 + 121, {11}))
        self.assertIs(paper.holds(record), True)
        record.most_misread = 3
        self.assertIs(paper.holds(record), False)
        self.assertIs(type(record.certify("pear", "oak")), OpenCertificate)


class Holds(unittest.TestCase):
    """Point 42: certificates that are made by hand."""

    def check(self, record, upper, lower, word, cases, expected):
        with self.subTest(upper=upper, lower=lower, word=word, cases=cases):
            before = all_state(record)
            self.assertIs(CaseCertificate(upper, lower, word, cases).holds(record), expected)
            self.assertEqual(holds(record, upper, lower, word, cases), expected)
            self.assertEqual(all_state(record), before)

    def test_one_misread_trial(self):
        record = doubled()
        for cases, expected in (
            (([1], [([2], [])]), True),
            (([2], [([1], [])]), True),
            (([1, 2], [([2], []), ([1], [])]), True),
            (([2, 1], [([1], []), ([2], [])]), True),
            (([5, 1], [([1], []), ([5, 2], [])]), True),
            (([1, 2], [([1], []), ([2], [])]), False),
            (([1, 1], [([2], []), ([2], [])]), False),
            (([1], [([1], [])]), False),
            (([1], [([2, 2], [])]), False),
            (([1], [([2, 1], [])]), False),
            (([1], [([2], [([], [])])]), False),
            (([1], [([2], []), ([2], [])]), False),
            (([1], []), False),
            (([1], [([], [])]), False),
            (([1], [([6], [])]), False),
            (([1], [([0], [])]), False),
            (([1], [([3], [])]), False),
            (([-1], [([2], [])]), False),
            (([10 ** 30], [([1], [])]), False),
            (([5], [([1], [])]), False),
            (([], []), False),
        ):
            self.check(record, "ash", "oak", "sits", cases, expected)
            self.check(record, "ash", "oak", "refuses", cases, False)
            self.check(record, "oak", "ash", "sits", cases, False)

    def test_refusals(self):
        record = doubled()
        for cases, expected in (
            (([4], [([1, 3], [])]), True),
            (([4], [([3, 2], [])]), True),
            (([3, 1], [([4], []), ([4], [])]), True),
            (([3, 1], [([4], []), ([2, 3], [])]), True),
            (([1, 4], [([4], []), ([3, 2], [])]), True),
            (([3, 1], [([2, 3], []), ([4], [])]), False),
            (([3, 1], [([4], []), ([1, 3], [])]), False),
            (([3], [([4], [])]), False),
            (([4], [([3], [])]), False),
            (([1, 2], [([4], []), ([4], [])]), False),
        ):
            self.check(record, "elm", "ash", "refuses", cases, expected)
            self.check(record, "elm", "ash", "sits", cases, False)
            self.check(record, "elm", "fir", "refuses", cases, False)

    def test_no_misread_trial(self):
        record = doubled(0)
        self.check(record, "ash", "oak", "sits", ([1], []), True)
        self.check(record, "ash", "oak", "sits", ([2], []), True)
        self.check(record, "ash", "oak", "sits", ([1], [([2], [])]), False)
        self.check(record, "ash", "oak", "sits", ([], []), False)
        self.check(record, "ash", "oak", "sits", ([1], [([], [])]), False)

    def test_a_make_with_itself(self):
        for most in range(4):
            record = DoubtfulRecord(*THREE, most_misread=most)
            record.note("sits", "ash", "ash")
            self.check(record, "oak", "oak", "sits", ([], []), True)
            self.check(record, "oak", "oak", "refuses", ([], []), False)
            self.check(record, "oak", "oak", "sits", ([], [([], [])]), False)
            self.check(record, "oak", "oak", "sits", ([1], []), most == 0)
            self.check(record, "oak", "oak", "sits", ([1], [([], [])]), most > 0)
            self.check(record, "oak", "ash", "sits", ([], []), False)

    def test_other_words(self):
        record = doubled()
        for word in ("open", "", "nothing", "Sits", "cases", "sits "):
            for cases in (([1], [([2], [])]), ([], [])):
                paper = CaseCertificate("ash", "oak", word, cases)
                self.assertIs(paper.holds(record), False)
                self.assertEqual((paper.claim(), paper.word, paper.CLAIM), ("ash on oak: " + word, word, "cases"))
        self.assertIs(CaseCertificate("oak", "oak", "open", ([], [])).holds(record), False)

    def test_unknown_makes(self):
        record = doubled()
        for upper, lower in (("fir", "oak"), ("ash", "fir"), ("fir", "fir"), ("", "")):
            for word in ("sits", "refuses", "open"):
                for cases in (([], []), ([1], [([2], [])])):
                    self.check(record, upper, lower, word, cases, False)

    def test_nodes_nested_eight_deep(self):
        for most in range(4):
            record = doubled(most)
            for depth in range(1, 9):
                cases = ([], [])
                for level in range(depth - 1):
                    cases = ([1 + level % 3], [cases])
                self.check(record, "ash", "oak", "sits", cases, False)
                self.check(record, "ash", "ash", "sits", cases, holds(record, "ash", "ash", "sits", cases))

    def test_small_changes(self):
        source = random.Random(42)
        found = {True: 0, False: 0}
        for record in doubtful_records(60, THREE, 20, 600):
            for upper in THREE:
                for lower in THREE:
                    word = record.verdict(upper, lower)
                    if word == "open":
                        continue
                    cases = record.certify(upper, lower).cases
                    for _ in range(4):
                        other = changed(source, cases)
                        expected = holds(record, upper, lower, word, other)
                        self.assertIs(CaseCertificate(upper, lower, word, other).holds(record), expected)
                        found[expected] += 1
        self.assertGreater(min(found.values()), 50, found)


class Making(unittest.TestCase):
    """Points 2 and 42: the attributes, and the copy of the tree."""

    def test_attributes(self):
        paper = CaseCertificate("ash", "oak", "sits", ([1], [([2], [])]))
        self.assertEqual(vars(paper), {"upper": "ash", "lower": "oak", "word": "sits", "cases": ([1], [([2], [])])})
        self.assertIsInstance(paper, Certificate)
        self.assertEqual(CaseCertificate.CLAIM, "cases")
        self.assertIn("claim", vars(CaseCertificate))
        self.assertIn("holds", vars(CaseCertificate))

    def test_the_whole_tree_is_copied(self):
        record = doubled()
        deep = ([2], [])
        cases = ([1], [deep])
        paper = CaseCertificate("ash", "oak", "sits", cases)
        deep[0].append(7)
        deep[1].append(([], []))
        cases[0].clear()
        cases[1].clear()
        self.assertEqual(paper.cases, ([1], [([2], [])]))
        self.assertIs(paper.holds(record), True)

    def test_certificates_share_nothing(self):
        record = DoubtfulRecord("oak", "ash", most_misread=2)
        for _ in range(3):
            record.note("sits", "ash", "oak")
        first, second = record.certify("ash", "oak"), record.certify("ash", "oak")
        for _, numbers in nodes(first.cases):
            numbers.append(9)
        self.assertIs(second.holds(record), True)
        third = CaseCertificate("ash", "oak", "sits", second.cases)
        second.cases[0].clear()
        self.assertIs(third.holds(record), True)

    def test_no_list_stands_twice_in_a_tree(self):
        record = DoubtfulRecord(*WOODS[:4], most_misread=2)
        for _ in range(3):
            for lower, upper in zip(WOODS[:4], WOODS[1:4]):
                record.note("sits", upper, lower)
        paper = record.certify("fir", "oak")
        lists = [numbers for _, numbers in nodes(paper.cases)]
        self.assertEqual(len({id(numbers) for numbers in lists}), len(lists))


class Later(unittest.TestCase):
    """Certificates that are kept while the record changes."""

    def test_trials_come_and_go(self):
        record = doubled()
        paper = record.certify("ash", "oak")
        told = str(vars(paper))
        record.note("sits", "ash", "oak")
        self.assertIs(paper.holds(record), True)
        record.note("refuses", "ash", "oak")
        self.assertIs(paper.holds(record), True)
        record.retract(1)
        self.assertIs(paper.holds(record), False)
        self.assertEqual(record.verdict("ash", "oak"), "sits")
        self.assertIs(record.certify("ash", "oak").holds(record), True)
        self.assertEqual(str(vars(paper)), told)

    def test_the_number_of_doubt_changes(self):
        record = doubled()
        papers = [record.certify(upper, lower) for upper in THREE for lower in THREE]
        self.assertTrue(all(paper.holds(record) for paper in papers))
        record.most_misread = 2
        for paper in papers:
            itself = paper.upper == paper.lower
            self.assertIs(paper.holds(record), itself or paper.CLAIM == "open")
        record.most_misread = 0
        for paper in papers:
            if paper.CLAIM == "cases":
                self.assertIs(paper.holds(record), paper.upper == paper.lower)
        record.most_misread = 1
        self.assertTrue(all(paper.holds(record) for paper in papers))

    def test_open_certificates(self):
        record = DoubtfulRecord(*THREE)
        record.note("sits", "ash", "oak")
        full, bare = Order.full(THREE), Order.bare(THREE)
        paper = OpenCertificate("ash", "oak", bare, full)
        self.assertIs(paper.holds(record), True)
        kept = record.certify("ash", "oak")
        record.note("sits", "ash", "oak")
        self.assertEqual((paper.holds(record), kept.holds(record)), (False, False))
        record.most_misread = 2
        self.assertEqual((paper.holds(record), kept.holds(record)), (True, True))
        record.add_make("fir")
        self.assertEqual((paper.holds(record), kept.holds(record)), (False, False))
        self.assertIs(OpenCertificate("ash", "oak", full, bare).holds(record), False)

    def test_an_added_make_changes_no_cases(self):
        record = doubled()
        paper = record.certify("elm", "ash")
        record.add_make("fir")
        self.assertIs(paper.holds(record), True)

    def test_another_record(self):
        paper = doubled().certify("ash", "oak")
        self.assertIs(paper.holds(DoubtfulRecord()), False)
        self.assertIs(paper.holds(DoubtfulRecord("oak", "ash", "elm")), False)
        self.assertIs(paper.holds(DoubtfulRecord("oak")), False)
        self.assertIs(paper.holds(doubled()), True)


if __name__ == "__main__":
    unittest.main()
