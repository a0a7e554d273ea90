"""The interface: its names stand where DOC.md lists them, and the files keep to the sizes of LANGUAGE.md."""

import ast
import importlib
import inspect
import unittest
from pathlib import Path

import chairstack

FOLDER = Path(chairstack.__file__).parent

FUNCTIONS = {
    "verdicts": {
        "verdict": "(record, upper, lower)",
        "least": "(record)",
        "greatest": "(record)",
        "grown": "(record, *pairs)",
        "possible_pairs": "(record)",
        "open_pairs": "(record)",
        "all_orders": "(record)",
        "alike": "(record, first, second)",
    },
    "certificates": {
        "certify": "(record, upper, lower)",
    },
    "stacks": {
        "fewest_stacks": "(order, chairs)",
        "check_stacks": "(order, chairs, stacks, spread)",
        "tallest_stack": "(order, chairs, heights)",
        "check_tallest": "(order, chairs, heights, height, stack, levels)",
        "cut_stacks": "(stacks, limit)",
    },
    "queries": {
        "gain": "(record, upper, lower)",
        "gains": "(record)",
        "next_trial": "(record)",
        "settle": "(record, hidden)",
    },
    "wishes": {
        "standing": "(record, *stack)",
        "trials_to_ask": "(record, *stack)",
        "grant": "(record, wishes)",
        "most_granted": "(record, wishes)",
    },
    "tables": {
        "verdict_table": "(record)",
        "gain_table": "(record)",
        "loan_table": "(hall)",
    },
}
CLASSES = {
    "orders": {
        "Order": {
            "__init__": "(self, makes, pairs=())",
            "bare": "(makes)",
            "full": "(makes)",
            "sits": "(self, upper, lower)",
            "pairs": "(self)",
            "part_of": "(self, other)",
            "groups": "(self)",
            "lowest_first": "(self)",
        },
    },
    "records": {
        "TrialList": {
            "__init__": "(self, *makes)",
            "add_make": "(self, name)",
            "note": "(self, word, upper, lower)",
            "retract": "(self, number)",
            "trial": "(self, number)",
            "trials": "(self)",
            "against": "(self, order)",
            "admits": "(self, order)",
            "copy": "(self)",
        },
        "Record": {
            "note": "(self, word, upper, lower)",
            "conflict": "(self, *pairs)",
            "saw": "(self, *stack)",
            "copy": "(self)",
        },
    },
    "certificates": {
        "Certificate": {
            "__init__": "(self, upper, lower)",
            "claim": "(self)",
            "holds": "(self, record)",
        },
        "SitsCertificate": {
            "__init__": "(self, upper, lower, path)",
            "holds": "(self, record)",
        },
        "RefusesCertificate": {
            "__init__": "(self, upper, lower, before, number, after)",
            "holds": "(self, record)",
        },
        "OpenCertificate": {
            "__init__": "(self, upper, lower, lacking, having)",
            "holds": "(self, record)",
        },
    },
    "doubt": {
        "DoubtfulRecord": {
            "__init__": "(self, *makes, most_misread=1)",
            "change_most": "(self, value)",
            "note": "(self, word, upper, lower)",
            "admits": "(self, order)",
            "least_misread": "(self)",
            "suspects": "(self)",
            "verdict": "(self, upper, lower)",
            "surely_misread": "(self)",
            "surely_right": "(self)",
            "certify": "(self, upper, lower)",
            "copy": "(self)",
        },
        "CaseCertificate": {
            "__init__": "(self, upper, lower, word, cases)",
            "claim": "(self)",
            "holds": "(self, record)",
        },
    },
    "hall": {
        "Hall": {
            "__init__": "(self, *makes, limit=10)",
            "add_make": "(self, name, *, height=1)",
            "note": "(self, word, upper, lower)",
            "saw": "(self, *stack)",
            "retract": "(self, number)",
            "bring": "(self, *lots, **counts)",
            "scrap": "(self, make, count)",
            "lend": "(self, borrower, make, count)",
            "give_back": "(self, number, count=None)",
            "change_limit": "(self, value)",
            "record": "(self)",
            "heights": "(self)",
            "counts": "(self, make)",
            "loans": "(self)",
            "chairs": "(self)",
            "fewest": "(self)",
            "plan": "(self)",
            "tallest": "(self)",
            "undo": "(self)",
            "redo": "(self)",
            "copy": "(self)",
        },
    },
    "desk": {
        "Desk": {
            "__init__": "(self, hall)",
            "run": "(self, row)",
            "run_all": "(self, rows)",
            "__call__": "(self, row)",
        },
    },
}
PROPERTIES = (
    ("orders", "Order", "makes"),
    ("records", "TrialList", "makes"),
    ("records", "TrialList", "trial_count"),
    ("doubt", "DoubtfulRecord", "most_misread"),
    ("hall", "Hall", "makes"),
    ("hall", "Hall", "limit"),
    ("hall", "Hall", "undo_count"),
    ("hall", "Hall", "redo_count"),
    ("desk", "Desk", "rows_run"),
)
OPERATORS = ("__contains__", "__len__", "__eq__", "__ne__", "__and__", "__or__")
GENERATORS = (("verdicts", "open_pairs"), ("verdicts", "all_orders"), ("queries", "gains"))


def module(name):
    return importlib.import_module("chairstack." + name)


class Interface(unittest.TestCase):
    def test_functions(self):
        for name, functions in FUNCTIONS.items():
            for word, parameters in functions.items():
                function = vars(module(name))[word]
                self.assertEqual(function.__module__, "chairstack." + name)
                self.assertEqual(str(inspect.signature(function)), parameters, word)

    def test_classes_and_their_own_methods(self):
        for name, classes in CLASSES.items():
            for word, methods in classes.items():
                kind = vars(module(name))[word]
                self.assertEqual(kind.__module__, "chairstack." + name)
                for method, parameters in methods.items():
                    self.assertIn(method, vars(kind))
                    self.assertEqual(str(inspect.signature(getattr(kind, method))), parameters, method)

    def test_properties_and_operators(self):
        for name, kind, word in PROPERTIES:
            self.assertIsInstance(vars(vars(module(name))[kind])[word], property)
        for word in OPERATORS:
            self.assertIn(word, vars(module("orders").Order))

    def test_properties_are_only_read(self):
        for record in (module("orders").Order(["oak"]), module("records").Record("oak")):
            with self.assertRaises(AttributeError):
                record.makes = ("ash",)

    def test_generators(self):
        for name, word in GENERATORS:
            self.assertTrue(inspect.isgeneratorfunction(vars(module(name))[word]), word)
        self.assertTrue(inspect.isgeneratorfunction(module("orders").Order.lowest_first))

    def test_record_inherits_the_rest(self):
        records = module("records")
        self.assertEqual(records.Record.__bases__, (records.TrialList,))
        self.assertEqual(module("doubt").DoubtfulRecord.__bases__, (records.TrialList,))

    def test_certificates_are_subclasses(self):
        certificates = module("certificates")
        for kind in (
            certificates.SitsCertificate,
            certificates.RefusesCertificate,
            certificates.OpenCertificate,
            module("doubt").CaseCertificate,
        ):
            self.assertTrue(issubclass(kind, certificates.Certificate))
            self.assertIn("CLAIM", vars(kind))


class Form(unittest.TestCase):
    def test_only_python_files(self):
        others = [path.name for path in FOLDER.iterdir() if path.suffix != ".py" and path.name != "__pycache__"]
        self.assertEqual(others, [])

    def test_characters_and_sizes(self):
        for path in FOLDER.glob("*.py"):
            text = path.read_text(encoding="utf-8")
            self.assertEqual([c for c in text if c != "\n" and not " " <= c <= "~"], [], path.name)
            lines = text.splitlines()
            self.assertLessEqual(len(lines), 399, path.name)
            self.assertLessEqual(max(map(len, lines)), 120, path.name)
            for node in ast.walk(ast.parse(text)):
                if isinstance(node, ast.FunctionDef):
                    self.assertLessEqual(node.end_lineno - node.lineno + 1, 40, node.name)

    def test_imports_are_from_the_package(self):
        for path in FOLDER.glob("*.py"):
            for node in ast.walk(ast.parse(path.read_text(encoding="utf-8"))):
                self.assertNotIsInstance(node, ast.Import, path.name)
                if isinstance(node, ast.ImportFrom):
                    self.assertTrue(node.module.startswith("chairstack."), path.name)


if __name__ == "__main__":
    unittest.main()
