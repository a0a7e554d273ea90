"""Every example of the interface, as DOC.md shows it."""

import ast
import unittest

EXAMPLES = '''
>>> from chairstack.orders import Order
>>> Order(["oak", "ash", "elm"], [("ash", "oak"), ("elm", "ash")]).pairs()
[('ash', 'oak'), ('elm', 'oak'), ('elm', 'ash')]

>>> from chairstack.orders import Order
>>> Order(["oak"], [("oak", "fir")])
raises UnknownMake(name='fir')

>>> from chairstack.orders import Order
>>> a = Order(["oak", "ash", "elm"], [("ash", "oak")])
>>> b = Order(["oak", "ash", "elm"], [("elm", "ash")])
>>> [(a & b).pairs(), (a | b).pairs(), len(a | b), ("ash", "oak") in a]
[[], [('ash', 'oak'), ('elm', 'oak'), ('elm', 'ash')], 3, True]

>>> from chairstack.orders import Order
>>> Order(["oak", "ash", "elm"], [("elm", "oak"), ("oak", "elm")]).groups()
[['oak', 'elm'], ['ash']]

>>> from chairstack.orders import Order
>>> list(Order(["oak", "ash", "elm"], [("oak", "elm")]).lowest_first())
['ash', 'elm', 'oak']

>>> from chairstack.records import Record
>>> record = Record("oak", "ash", "elm")
>>> record.note("sits", "ash", "oak")
>>> record.note("refuses", "elm", "oak")
>>> record.note("sits", "elm", "ash")
raises Contradiction(numbers=[1, 2])

>>> from chairstack.records import Record
>>> record = Record("oak", "ash", "elm")
>>> record.saw("oak", "ash", "elm")
>>> record.retract(1)
>>> record.note("sits", "oak", "elm")
>>> record.trials()
[(2, 'sits', 'elm', 'ash'), (3, 'sits', 'oak', 'elm')]

>>> from chairstack.verdicts import open_pairs, verdict
>>> from chairstack.records import Record
>>> record = Record("oak", "ash", "elm")
>>> record.note("sits", "ash", "oak")
>>> record.note("refuses", "elm", "oak")
>>> [verdict(record, "elm", "ash"), list(open_pairs(record))]
['refuses', [('oak', 'ash'), ('oak', 'elm'), ('ash', 'elm')]]

>>> from chairstack.verdicts import greatest
>>> from chairstack.records import Record
>>> record = Record("oak", "ash", "elm")
>>> record.note("sits", "ash", "oak")
>>> record.note("refuses", "elm", "oak")
>>> greatest(record).pairs()
[('oak', 'ash'), ('oak', 'elm'), ('ash', 'oak'), ('ash', 'elm')]

>>> from chairstack.verdicts import greatest
>>> from chairstack.records import Record
>>> record = Record("oak", "ash", "elm")
>>> record.note("refuses", "elm", "oak")
>>> greatest(record)
raises NoGreatest(first='elm', middle='ash', last='oak')

>>> from chairstack.verdicts import grown
>>> from chairstack.records import Record
>>> record = Record("oak", "ash", "elm")
>>> record.note("refuses", "elm", "oak")
>>> [grown(record).pairs(), grown(record, ("elm", "ash")).pairs()]
[[('oak', 'ash'), ('oak', 'elm'), ('ash', 'oak'), ('ash', 'elm')], [('oak', 'ash'), ('oak', 'elm'), ('ash', 'elm'), ('elm', 'ash')]]

>>> from chairstack.verdicts import all_orders
>>> from chairstack.records import Record
>>> record = Record("oak", "ash")
>>> [order.pairs() for order in all_orders(record)]
[[], [('ash', 'oak')], [('oak', 'ash')], [('oak', 'ash'), ('ash', 'oak')]]

>>> from chairstack.certificates import certify
>>> from chairstack.records import Record
>>> record = Record("oak", "ash", "elm")
>>> record.note("sits", "ash", "oak")
>>> record.note("refuses", "elm", "oak")
>>> paper = certify(record, "elm", "ash")
>>> [paper.claim(), paper.before, paper.number, paper.after, paper.holds(record)]
['elm on ash: refuses', [], 2, [1], True]

>>> from chairstack.certificates import SitsCertificate
>>> from chairstack.records import Record
>>> record = Record("oak", "ash", "elm")
>>> record.note("sits", "ash", "oak")
>>> record.note("refuses", "elm", "oak")
>>> paper = SitsCertificate("ash", "oak", [1])
>>> first = paper.holds(record)
>>> record.retract(1)
>>> [first, paper.holds(record)]
[True, False]

>>> from chairstack.orders import Order
>>> from chairstack.stacks import check_stacks, fewest_stacks
>>> order = Order(["oak", "ash", "elm"], [("ash", "oak"), ("elm", "oak")])
>>> chairs = ["oak", "ash", "elm", "ash"]
>>> stacks, spread = fewest_stacks(order, chairs)
>>> [len(stacks), len(spread), check_stacks(order, chairs, stacks, spread)]
[2, 2, True]

>>> from chairstack.orders import Order
>>> from chairstack.stacks import tallest_stack
>>> order = Order(["oak", "ash", "elm"], [("ash", "oak"), ("elm", "oak")])
>>> tallest_stack(order, ["oak", "ash", "elm"], {"oak": 5, "ash": 2, "elm": 3})
(8, [0, 2], [5, 7, 8])

>>> from chairstack.stacks import cut_stacks
>>> cut_stacks([[0, 1, 3], [2]], 2)
[[0, 1], [3], [2]]

>>> from chairstack.queries import gains, next_trial
>>> from chairstack.records import Record
>>> record = Record("oak", "ash", "elm")
>>> record.note("sits", "ash", "oak")
>>> record.note("refuses", "elm", "oak")
>>> [list(gains(record)), next_trial(record)]
[[('oak', 'ash', 1, 1), ('oak', 'elm', 2, 1), ('ash', 'elm', 1, 2)], ('oak', 'elm')]

>>> from chairstack.orders import Order
>>> from chairstack.queries import settle
>>> from chairstack.records import Record
>>> record = Record("oak", "ash", "elm")
>>> record.note("sits", "ash", "oak")
>>> record.note("refuses", "elm", "oak")
>>> settle(record, Order(["oak", "ash", "elm"], [("ash", "oak")]))
[('refuses', 'oak', 'elm'), ('refuses', 'oak', 'ash'), ('refuses', 'ash', 'elm')]

>>> from chairstack.doubt import DoubtfulRecord
>>> record = DoubtfulRecord("oak", "ash", most_misread=1)
>>> record.note("sits", "ash", "oak")
>>> record.note("sits", "ash", "oak")
>>> record.note("refuses", "ash", "oak")
>>> [record.verdict("ash", "oak"), record.suspects(), record.surely_misread(), record.surely_right()]
['sits', [3], [3], [1, 2]]

>>> from chairstack.doubt import DoubtfulRecord
>>> record = DoubtfulRecord("oak", "ash")
>>> record.note("sits", "ash", "oak")
>>> before = record.verdict("ash", "oak")
>>> record.note("sits", "ash", "oak")
>>> paper = record.certify("ash", "oak")
>>> [before, paper.claim(), paper.holds(record)]
['open', 'ash on oak: sits', True]

>>> from chairstack.wishes import standing, trials_to_ask
>>> from chairstack.records import Record
>>> record = Record("oak", "ash", "elm")
>>> record.note("refuses", "elm", "oak")
>>> [standing(record, "oak", "ash", "elm"), trials_to_ask(record, "oak", "ash", "elm")]
['falls', [('ash', 'oak'), ('elm', 'ash')]]

>>> from chairstack.wishes import grant
>>> from chairstack.records import Record
>>> record = Record("oak", "ash", "elm")
>>> record.note("refuses", "elm", "oak")
>>> grant(record, [["elm", "oak"], ["oak", "ash"], ["ash", "elm"]])
raises CannotGrant(indexes=[1, 2], numbers=[1])

>>> from chairstack.wishes import most_granted
>>> from chairstack.records import Record
>>> record = Record("oak", "ash", "elm")
>>> record.note("refuses", "elm", "oak")
>>> most_granted(record, [["elm", "oak"], ["oak", "ash"], ["ash", "elm"]])
[0, 1]

>>> from chairstack.hall import Hall
>>> hall = Hall("oak", "ash")
>>> hall.bring(("oak", 1), oak=1, ash=3)
>>> hall.lend("anna", "ash", 2)
>>> before = hall.counts("ash")
>>> hall.undo()
>>> [before, hall.counts("ash"), hall.counts("oak"), hall.redo_count]
[(3, 1, 2), (3, 3, 0), (2, 2, 0), 1]

>>> from chairstack.hall import Hall
>>> hall = Hall("oak", limit=2)
>>> hall.bring(oak=5)
>>> [hall.fewest(), hall.plan(), hall.tallest()]
[1, [['oak', 'oak'], ['oak', 'oak'], ['oak']], (5, ['oak', 'oak', 'oak', 'oak', 'oak'])]

>>> from chairstack.hall import Hall
>>> from chairstack.desk import Desk
>>> hall = Hall("oak")
>>> desk = Desk(hall)
>>> [desk.run("make ash 7"), desk("saw oak ash ash"), desk("ask ash oak"), desk("ask oak ash"), desk("next"), desk.rows_run]
['ok', 'trials 1 2', 'sits', 'open', 'oak ash', 5]

>>> from chairstack.hall import Hall
>>> from chairstack.desk import Desk
>>> desk = Desk(Hall("oak"))
>>> desk.run_all(["bring oak 1", "bring fir 1"])
raises RowFailed(row_index=1)

>>> from chairstack.tables import verdict_table
>>> from chairstack.records import Record
>>> record = Record("oak", "ash", "elm")
>>> record.note("sits", "ash", "oak")
>>> record.note("refuses", "elm", "oak")
>>> verdict_table(record)
['oak          + ? ?', 'ash          + + ?', 'elm          - - +']
'''


def error_parts(text):
    """The class name and the attributes of a line such as: raises Full(most=12)."""
    call = ast.parse(text[len("raises "):], mode="eval").body
    return call.func.id, {word.arg: ast.literal_eval(word.value) for word in call.keywords}


class Examples(unittest.TestCase):
    def run_example(self, text):
        *steps, expected = text.splitlines()
        *first, last = [step[len(">>> "):] for step in steps]
        names = {}
        exec("\n".join(first), names)
        if not expected.startswith("raises "):
            self.assertEqual(repr(eval(last, names)), expected)
            return
        kind, attributes = error_parts(expected)
        with self.assertRaises(ValueError) as caught:
            eval(last, names)
        self.assertEqual(type(caught.exception).__name__, kind)
        self.assertEqual(type(caught.exception).__module__, "chairstack.errors")
        self.assertEqual(vars(caught.exception), attributes)

    def test_examples(self):
        examples = EXAMPLES.strip().split("\n\n")
        self.assertEqual(len(examples), 29)
        for text in examples:
            with self.subTest(text):
                self.run_example(text)


if __name__ == "__main__":
    unittest.main()
