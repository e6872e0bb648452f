"""The interface: each name stands in its file, with the arguments that the document lists."""

import ast
import doctest
import importlib
import os
import unittest

ROOT = os.path.dirname(os.path.dirname(os.path.abspath(__file__)))

FUNCTIONS = {
    "texts": {"is_integer": ["value", "least", "greatest"], "integer_of": ["word"]},
    "forms": {"is_event": ["value"], "is_run": ["value"], "is_sentence": ["count", "value"]},
    "written": {
        "write_run": ["run"], "read_run": ["text"], "write_sentence": ["count", "sentence"], "read_sentence": ["count", "text"],
    },
    "sentences": {
        "holds": ["order", "cut", "sentence"], "kind": ["sentence"], "part": ["sentence", "process"],
        "fulfils": ["order", "process", "events", "limbs"],
    },
    "joint": {
        "some_joint": ["order", "sentence"], "every_joint": ["order", "sentence"],
        "stretches": ["order", "process", "limbs"], "moves_to": ["order", "cut", "target"],
    },
    "sums": {"gains": ["order", "terms"], "some_sum": ["order", "sentence"]},
    "free": {"some_free": ["order", "sentence", "most"], "every_free": ["order", "sentence", "most"]},
    "tell": {"tell": ["order", "question", "sentence", "most"]},
    "judge": {"takes": ["order", "question", "sentence", "answer", "paper"]},
}

CLASSES = {
    "errors": {"CutError": {}, "BadRun": {}, "BadSentence": {}, "BadText": {}, "TooMany": {}},
    "order": {"Order": {
        "__init__": ["run"], "count": [], "size": ["process"], "clock": ["process", "event"],
        "before": ["process", "event", "other", "later"], "empty": [], "whole": [], "is_cut": ["value"], "ups": ["cut"],
        "added": ["cut", "process"], "state": ["process", "events"], "under_way": ["cut"], "cuts": ["most"],
    }},
    "watcher": {"Watcher": {
        "__init__": ["count"], "feed": ["process", "index", "event"], "known": [], "waiting": [], "some": ["sentence", "most"],
    }},
}


def definitions(body, kind):
    return {node.name: node for node in body if isinstance(node, kind)}


def body_of(module):
    with open(os.path.join(ROOT, "cutpapers", module + ".py"), encoding="ascii") as file:
        return ast.parse(file.read()).body


def arguments(node):
    return [argument.arg for argument in node.args.args]


class TestInterface(unittest.TestCase):

    def test_functions(self):
        for module, functions in FUNCTIONS.items():
            found = definitions(body_of(module), ast.FunctionDef)
            for name, told in functions.items():
                self.assertEqual(told, arguments(found[name]))
                self.assertTrue(hasattr(importlib.import_module("cutpapers." + module), name))

    def test_classes(self):
        for module, classes in CLASSES.items():
            found = definitions(body_of(module), ast.ClassDef)
            for name, methods in classes.items():
                inside = definitions(found[name].body, ast.FunctionDef)
                for method, told in methods.items():
                    self.assertEqual(["self"] + told, arguments(inside[method]))

    def test_the_examples_of_the_readme(self):
        results = doctest.testfile(os.path.join(ROOT, "README.md"), module_relative=False, encoding="utf-8")
        self.assertGreater(results.attempted, 0)
        self.assertEqual(0, results.failed)


if __name__ == "__main__":
    unittest.main()
