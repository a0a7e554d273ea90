"""Every example of the interface for errors, orders, records and verdicts, as DOC.md shows it."""

import ast
import unittest

EXAMPLES = '''
>>> from chairstack.orders import Order
>>> Order(["oak", "ash", "elm"], [("ash", "oak"), ("elm", "ash")]).pairs()
[('ash', 'oak'), ('elm', 'oak'), ('elm', 'ash')]

>>> from chairstack.orders import Order
>>> Order(["oak"], [("oak", "fir")])
raises UnknownMake(name='fir')

>>> from chairstack.orders import Order
>>> a = Order(["oak", "ash", "elm"], [("ash", "oak")])
>>> b = Order(["oak", "ash", "elm"], [("elm", "ash")])
>>> [(a & b).pairs(), (a | b).pairs(), len(a | b), ("ash", "oak") in a]
[[], [('ash', 'oak'), ('elm', 'oak'), ('elm', 'ash')], 3, True]

>>> from chairstack.orders import Order
>>> Order(["oak", "ash", "elm"], [("elm", "oak"), ("oak", "elm")]).groups()
[['oak', 'elm'], ['ash']]

>>> from chairstack.orders import Order
>>> list(Order(["oak", "ash", "elm"], [("oak", "elm")]).lowest_first())
['ash', 'elm', 'oak']

>>> from chairstack.records import Record
>>> record = Record("oak", "ash", "elm")
>>> record.note("sits", "ash", "oak")
>>> record.note("refuses", "elm", "oak")
>>> record.note("sits", "elm", "ash")
raises Contradiction(numbers=[1, 2])

>>> from chairstack.records import Record
>>> record = Record("oak", "ash", "elm")
>>> record.saw("oak", "ash", "elm")
>>> record.retract(1)
>>> record.note("sits", "oak", "elm")
>>> record.trials()
[(2, 'sits', 'elm', 'ash'), (3, 'sits', 'oak', 'elm')]

>>> from chairstack.verdicts import open_pairs, verdict
>>> from chairstack.records import Record
>>> record = Record("oak", "ash", "elm")
>>> record.note("sits", "ash", "oak")
>>> record.note("refuses", "elm", "oak")
>>> [verdict(record, "elm", "ash"), list(open_pairs(record))]
['refuses', [('oak', 'ash'), ('oak', 'elm'), ('ash', 'elm')]]

>>> from chairstack.verdicts import greatest
>>> from chairstack.records import Record
>>> record = Record("oak", "ash", "elm")
>>> record.note("sits", "ash", "oak")
>>> record.note("refuses", "elm", "oak")
>>> greatest(record).pairs()
[('oak', 'ash'), ('oak', 'elm'), ('ash', 'oak'), ('ash', 'elm')]

>>> from chairstack.verdicts import greatest
>>> from chairstack.records import Record
>>> record = Record("oak", "ash", "elm")
>>> record.note("refuses", "elm", "oak")
>>> greatest(record)
raises NoGreatest(first='elm', middle='ash', last='oak')

>>> from chairstack.verdicts import grown
>>> from chairstack.records import Record
>>> record = Record("oak", "ash", "elm")
>>> record.note("refuses", "elm", "oak")
>>> [grown(record).pairs(), grown(record, ("elm", "ash")).pairs()]
[[('oak', 'ash'), ('oak', 'elm'), ('ash', 'oak'), ('ash', 'elm')], [('oak', 'ash'), ('oak', 'elm'), ('ash', 'elm'), ('elm', 'ash')]]

>>> from chairstack.verdicts import all_orders
>>> from chairstack.records import Record
>>> record = Record("oak", "ash")
>>> [order.pairs() for order in all_orders(record)]
[[], [('ash', 'oak')], [('oak', 'ash')], [('oak', 'ash'), ('ash', 'oak')]]
'''


def error_parts(text):
    """The class name and the attributes of a line such as: raises Full(most=12)."""
    call = ast.parse(text[len("raises "):], mode="eval").body
    return call.func.id, {word.arg: ast.literal_eval(word.value) for word in call.keywords}


class Examples(unittest.TestCase):
    def run_example(self, text):
        *steps, expected = text.splitlines()
        *first, last = [step[len(">>> "):] for step in steps]
        names = {}
        exec("\n".join(first), names)
        if not expected.startswith("raises "):
            self.assertEqual(repr(eval(last, names)), expected)
            return
        kind, attributes = error_parts(expected)
        with self.assertRaises(ValueError) as caught:
            eval(last, names)
        self.assertEqual(type(caught.exception).__name__, kind)
        self.assertEqual(type(caught.exception).__module__, "chairstack.errors")
        self.assertEqual(vars(caught.exception), attributes)

    def test_examples(self):
        examples = EXAMPLES.strip().split("\n\n")
        self.assertEqual(len(examples), 12)
        for text in examples:
            with self.subTest(text):
                self.run_example(text)


if __name__ == "__main__":
    unittest.main()
