"""Points 2 and 26 to 31: certificates for the verdicts of a Record."""

import unittest
from itertools import product

from caught import check_raises, state
from chairstack.certificates import Certificate, OpenCertificate, RefusesCertificate, SitsCertificate, certify
from chairstack.errors import UnknownMake
from chairstack.orders import Order
from chairstack.records import Record, TrialList
from chairstack.verdicts import least, verdict
from plain import WOODS, Judge, admissible, agrees, closure, every_order, plain_verdict
from test_records import noted, random_records, settings_of_three

THREE = ["oak", "ash", "elm"]
KIND_OF = {"sits": SitsCertificate, "refuses": RefusesCertificate, "open": OpenCertificate}


def plain_path(kept, path, start, goal):
    """Point 28, with the trials as a dict from numbers."""
    trials = [kept.get(number) for number in path]
    if any(trial is None or trial[0] != "sits" for trial in trials):
        return False
    stops = [start] + [lower for _, _, lower in trials]
    return [upper for _, upper, _ in trials] == stops[:-1] and stops[-1] == goal


def by_number(record):
    return {number: trial for number, *trial in record.trials()}


def small_record():
    record = Record("oak", "ash", "elm", "fir")
    record.note("sits", "ash", "oak")
    record.note("sits", "elm", "ash")
    record.note("refuses", "oak", "fir")
    record.note("sits", "ash", "oak")
    record.note("sits", "oak", "oak")
    return record


class Claims(unittest.TestCase):
    """Point 26."""

    def papers(self):
        bare = Order.bare(THREE)
        return {
            "nothing": Certificate("ash", "oak"),
            "sits": SitsCertificate("ash", "oak", [1]),
            "refuses": RefusesCertificate("ash", "oak", [], 1, []),
            "open": OpenCertificate("ash", "oak", bare, bare),
        }

    def test_claims(self):
        for word, paper in self.papers().items():
            self.assertEqual(paper.CLAIM, word)
            self.assertEqual(type(paper).CLAIM, word)
            self.assertEqual(paper.claim(), "ash on oak: " + word)
            self.assertEqual((paper.upper, paper.lower), ("ash", "oak"))
            self.assertIsInstance(paper, Certificate)

    def test_a_claim_is_made_for_any_two_makes(self):
        self.assertEqual(Certificate("oak", "oak").claim(), "oak on oak: nothing")
        self.assertEqual(SitsCertificate("", "x y", []).claim(), " on x y: sits")

    def test_attributes(self):
        lacking, having = Order.bare(THREE), Order.full(THREE)
        refusal = RefusesCertificate("ash", "oak", [4, 4], 7, [9])
        self.assertEqual(vars(refusal), {"upper": "ash", "lower": "oak", "before": [4, 4], "number": 7, "after": [9]})
        self.assertEqual(vars(SitsCertificate("a", "b", [3])), {"upper": "a", "lower": "b", "path": [3]})
        paper = OpenCertificate("ash", "oak", lacking, having)
        self.assertEqual((paper.lacking, paper.having), (lacking, having))

    def test_lists_are_copied(self):
        path, before, after = [1], [2], [3]
        papers = [SitsCertificate("ash", "oak", path), RefusesCertificate("ash", "oak", before, 1, after)]
        for numbers in (path, before, after):
            numbers.append(8)
        self.assertEqual((papers[0].path, papers[1].before, papers[1].after), ([1], [2], [3]))


class Base(unittest.TestCase):
    """Point 27."""

    def test_the_makes_are_known(self):
        for record in (Record("oak", "ash"), TrialList("oak", "ash")):
            self.assertIs(Certificate("ash", "oak").holds(record), True)
            self.assertIs(Certificate("oak", "oak").holds(record), True)
            for upper, lower in (("elm", "oak"), ("oak", "elm"), ("elm", "elm"), ("", "oak"), ("oak", "Oak")):
                self.assertIs(Certificate(upper, lower).holds(record), False)
            record.add_make("elm")
            self.assertIs(Certificate("elm", "oak").holds(record), True)

    def test_unknown_makes_in_every_class(self):
        record = small_record()
        order = Order(record.makes, [("ash", "oak")])
        for upper, lower in (("yew", "oak"), ("oak", "yew"), ("yew", "yew"), ("", "")):
            for paper in (
                SitsCertificate(upper, lower, []),
                SitsCertificate(upper, lower, [1]),
                RefusesCertificate(upper, lower, [], 3, []),
                RefusesCertificate(upper, lower, [1], 3, [1]),
                OpenCertificate(upper, lower, Order.bare(record.makes), order),
                OpenCertificate(upper, lower, Order.bare(["yew", "oak"]), Order.full(["yew", "oak"])),
            ):
                self.assertIs(paper.holds(record), False)
                self.assertIs(paper.holds(Record()), False)

    def test_holds_changes_nothing(self):
        record = small_record()
        before = state(record)
        papers = [certify(record, upper, lower) for upper in record.makes for lower in record.makes]
        for paper in papers:
            self.assertIs(paper.holds(record), True)
            self.assertIs(paper.holds(Record("yew")), False)
        self.assertEqual(state(record), before)


class Sits(unittest.TestCase):
    """Point 28."""

    def test_by_hand(self):
        record = small_record()
        for upper, lower, path, expected in (
            ("ash", "oak", [1], True),
            ("ash", "oak", [4], True),
            ("elm", "oak", [2, 1], True),
            ("elm", "oak", [2, 4], True),
            ("elm", "oak", [1, 2], False),
            ("elm", "oak", [2], False),
            ("elm", "oak", [1], False),
            ("elm", "oak", [], False),
            ("ash", "oak", [1, 5], True),
            ("ash", "oak", [1, 5, 5, 5], True),
            ("oak", "oak", [5], True),
            ("oak", "oak", [], True),
            ("fir", "fir", [], True),
            ("oak", "oak", [1], False),
            ("oak", "ash", [1], False),
            ("oak", "fir", [3], False),
            ("ash", "oak", [6], False),
            ("ash", "oak", [0], False),
            ("ash", "oak", [-1], False),
            ("ash", "oak", [1, 6], False),
            ("ash", "oak", [10 ** 30], False),
            ("ash", "fir", [1, 3], False),
        ):
            with self.subTest(upper=upper, lower=lower, path=path):
                self.assertIs(SitsCertificate(upper, lower, path).holds(record), expected)

    def test_every_short_path(self):
        record = small_record()
        record.retract(4)
        record.note("sits", "oak", "ash")
        paths = [list(path) for size in range(4) for path in product(range(8), repeat=size)]
        kept = by_number(record)
        for upper in record.makes:
            for lower in record.makes:
                for path in paths:
                    expected = plain_path(kept, path, upper, lower)
                    self.assertIs(SitsCertificate(upper, lower, path).holds(record), expected)


class Refuses(unittest.TestCase):
    """Point 29."""

    def test_by_hand(self):
        record = Record("oak", "ash", "elm", "fir")
        for trial in (
            ("sits", "ash", "oak"),
            ("sits", "fir", "elm"),
            ("refuses", "ash", "elm"),
            ("sits", "oak", "oak"),
            ("sits", "ash", "oak"),
        ):
            record.note(*trial)
        for upper, lower, before, number, after, expected in (
            ("ash", "elm", [], 3, [], True),
            ("oak", "elm", [1], 3, [], True),
            ("oak", "fir", [1], 3, [2], True),
            ("ash", "fir", [], 3, [2], True),
            ("oak", "fir", [5, 4, 4], 3, [2], True),
            ("oak", "fir", [], 3, [2], False),
            ("oak", "fir", [1], 3, [], False),
            ("oak", "fir", [2], 3, [1], False),
            ("oak", "fir", [1], 2, [2], False),
            ("ash", "oak", [], 1, [], False),
            ("oak", "fir", [1], 6, [2], False),
            ("oak", "fir", [1], 0, [2], False),
            ("oak", "fir", [1], -3, [2], False),
            ("oak", "fir", [1, 7], 3, [2], False),
            ("oak", "fir", [1], 3, [2, 3], False),
            ("elm", "ash", [], 3, [], False),
            ("fir", "oak", [1], 3, [2], False),
        ):
            with self.subTest(upper=upper, lower=lower, before=before, number=number, after=after):
                self.assertIs(RefusesCertificate(upper, lower, before, number, after).holds(record), expected)

    def test_every_short_pair_of_paths(self):
        for record in random_records(4, THREE, 6, 70):
            kept = by_number(record)
            paths = [list(path) for size in range(3) for path in product(sorted(kept), repeat=size)]
            for upper in THREE:
                for lower in THREE:
                    for number in [*kept, 99]:
                        word, first, last = kept.get(number, ("", "", ""))
                        befores = [path for path in paths if plain_path(kept, path, first, upper)]
                        afters = [path for path in paths if plain_path(kept, path, lower, last)]
                        for before in paths:
                            for after in paths:
                                expected = word == "refuses" and before in befores and after in afters
                                paper = RefusesCertificate(upper, lower, before, number, after)
                                self.assertIs(paper.holds(record), expected)


class Open(unittest.TestCase):
    """Point 30."""

    def test_every_two_orders(self):
        sets = every_order(THREE)
        orders = [Order(THREE, sorted(pairs)) for pairs in sets]
        for record in [noted(trials, THREE) for trials in list(settings_of_three())[::61]]:
            fits = [all(agrees(pairs, trial[1:]) for trial in record.trials()) for pairs in sets]
            for pair in (("ash", "oak"), ("oak", "elm"), ("ash", "ash")):
                for one, two in product(range(len(sets)), repeat=2):
                    expected = fits[one] and fits[two] and pair not in sets[one] and pair in sets[two]
                    self.assertIs(OpenCertificate(*pair, orders[one], orders[two]).holds(record), expected)

    def test_other_makes(self):
        record = Record(*THREE)
        for makes in (["oak", "ash"], ["ash", "oak", "elm"], [*THREE, "fir"]):
            for lacking, having in ((makes, THREE), (THREE, makes), (makes, makes)):
                paper = OpenCertificate("ash", "oak", Order.bare(lacking), Order.full(having))
                self.assertIs(paper.holds(record), False)
        paper = OpenCertificate("ash", "oak", Order.bare(THREE), Order.full(THREE))
        self.assertIs(paper.holds(record), True)
        record.add_make("fir")
        self.assertIs(paper.holds(record), False)


class Certify(unittest.TestCase):
    """Point 31."""

    def check(self, judge, record):
        makes = list(record.makes)
        before = state(record)
        orders = admissible(judge.orders, record.trials())
        for upper in makes:
            for lower in makes:
                paper = certify(record, upper, lower)
                word = plain_verdict(orders, (upper, lower))
                self.assertIs(type(paper), KIND_OF[word])
                self.assertEqual(paper.CLAIM, word)
                self.assertEqual(paper.claim(), f"{upper} on {lower}: {word}")
                self.assertIs(paper.holds(record), True)
                self.check_shortest(judge, record, paper)
        self.assertEqual(state(record), before)

    def check_shortest(self, judge, record, paper):
        kept, pair = record.trials(), (paper.upper, paper.lower)
        if isinstance(paper, SitsCertificate):
            self.assertTrue(plain_path(by_number(record), paper.path, *pair))
            self.assertEqual(len(paper.path), judge.shortest_conflict(kept, [("refuses", *pair)]))
        elif isinstance(paper, RefusesCertificate):
            size = judge.shortest_conflict(kept, [("sits", *pair)])
            self.assertEqual(len(paper.before) + 1 + len(paper.after), size)
        else:
            orders = admissible(judge.orders, kept)
            common = frozenset.intersection(*orders)
            self.assertEqual(paper.lacking, Order(record.makes, sorted(common)))
            self.assertEqual(paper.having, Order(record.makes, sorted(closure(record.makes, common | {pair}))))

    def test_three_makes(self):
        judge = Judge(THREE)
        for trials in settings_of_three():
            self.check(judge, noted(trials, THREE))
        for record in random_records(30, THREE, 12, 4200):
            self.check(judge, record)

    def test_four_makes(self):
        judge = Judge(WOODS[:4])
        for record in random_records(20, WOODS[:4], 9, 4300):
            self.check(judge, record)

    def test_a_make_with_itself(self):
        record = Record("oak")
        record.note("sits", "oak", "oak")
        paper = certify(record, "oak", "oak")
        self.assertEqual((paper.CLAIM, paper.path, paper.holds(record)), ("sits", [], True))

    def test_long_ways_and_short_cuts(self):
        record = Record(*WOODS)
        for lower, upper in zip(WOODS, WOODS[1:]):
            record.note("sits", upper, lower)
        self.assertEqual(certify(record, "pear", "oak").path, list(range(11, 0, -1)))
        record.note("sits", "pear", "fir")
        self.assertEqual(certify(record, "pear", "oak").path, [12, 3, 2, 1])
        record.note("refuses", "elm", "teak")
        record.note("refuses", "ash", "plum")
        for lower, after in (("plum", []), ("pear", [11])):
            paper = certify(record, "oak", lower)
            self.assertEqual((paper.before, paper.number, paper.after), ([1], 14, after))
            self.assertIs(paper.holds(record), True)
        record.retract(14)
        paper = certify(record, "oak", "pear")
        self.assertEqual((paper.before, paper.number, paper.after), ([2, 1], 13, [11, 10]))

    def test_unknown_makes(self):
        record = small_record()
        check_raises(self, UnknownMake, {"name": "yew"}, certify, record, "yew", "bay")
        check_raises(self, UnknownMake, {"name": "bay"}, certify, record, "oak", "bay")
        check_raises(self, UnknownMake, {"name": "yew"}, certify, record, "yew", "oak")

    def test_a_full_record(self):
        record = Record(*THREE)
        for _ in range(60):
            record.note("sits", "ash", "oak")
        self.assertEqual(len(certify(record, "ash", "oak").path), 1)
        self.assertIs(certify(record, "oak", "ash").holds(record), True)


class Later(unittest.TestCase):
    """Point 31: a certificate does not change when the record does."""

    def test_retracted_trials(self):
        record = small_record()
        papers = {word: certify(record, *pair) for word, pair in (
            ("sits", ("elm", "oak")), ("refuses", ("oak", "fir")), ("open", ("fir", "oak")))}
        told = {word: {name: str(value) for name, value in vars(paper).items() if not isinstance(value, Order)}
                for word, paper in papers.items()}
        lacking = papers["open"].lacking
        self.assertEqual({word: paper.CLAIM for word, paper in papers.items()}, {word: word for word in papers})
        record.retract(2)
        self.assertEqual([paper.holds(record) for paper in papers.values()], [False, True, True])
        record.retract(3)
        self.assertEqual([paper.holds(record) for paper in papers.values()], [False, False, True])
        record.note("sits", "fir", "oak")
        self.assertEqual([paper.holds(record) for paper in papers.values()], [False, False, False])
        for word, paper in papers.items():
            self.assertEqual(
                {name: str(value) for name, value in vars(paper).items() if not isinstance(value, Order)}, told[word])
        self.assertIs(papers["open"].lacking, lacking)
        self.assertEqual(lacking, Order(record.makes, [("ash", "oak"), ("elm", "ash")]))

    def test_more_trials(self):
        record = small_record()
        papers = [certify(record, upper, lower) for upper in record.makes for lower in record.makes]
        record.note("sits", "fir", "oak")
        for paper in papers:
            same = verdict(record, paper.upper, paper.lower) == paper.CLAIM
            if paper.CLAIM != "open":
                self.assertTrue(same and paper.holds(record))
            self.assertTrue(same or not paper.holds(record))

    def test_an_added_make(self):
        record = small_record()
        sits, refuses, undecided = [certify(record, *pair) for pair in (("elm", "oak"), ("oak", "fir"), ("fir", "oak"))]
        record.add_make("yew")
        self.assertEqual([paper.holds(record) for paper in (sits, refuses, undecided)], [True, True, False])

    def test_another_record(self):
        record = small_record()
        twin = record.copy()
        paper = certify(record, "elm", "oak")
        twin.retract(2)
        self.assertEqual((paper.holds(record), paper.holds(twin)), (True, False))

    def test_results_are_new(self):
        record = small_record()
        certify(record, "elm", "oak").path.clear()
        paper = certify(record, "elm", "oak")
        self.assertIs(paper.holds(record), True)
        self.assertEqual(least(record), Order(record.makes, [("ash", "oak"), ("elm", "ash")]))


if __name__ == "__main__":
    unittest.main()
