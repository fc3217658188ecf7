"""The interface: all names are there, with their arguments, in the order and as they are called."""

import importlib
import inspect
import unittest

FUNCTIONS = {
    "houses": {"is_whole": "thing", "is_name": "thing"},
    "tables": {"filled": "house cells", "is_table": "house numbers"},
    "texts": {"show_house": "house", "read_house": "text", "show_numbers": "house numbers",
              "read_numbers": "house text"},
    "sums": {"sums_of": "house", "whole_of": "house one", "others_of": "house one", "added": "house sums",
             "ends_of": "house"},
    "rings": {"changed": "house table ring amount", "ring_through": "house table open_places place way"},
    "spans": {"span": "house table known place", "least_table": "house table known place",
              "greatest_table": "house table known place", "free_ring": "house table known place"},
    "papers": {"at_most": "house numbers place sums", "at_least": "house numbers place sums",
               "sums_below": "house table known place", "sums_above": "house table known place"},
    "wishes": {"parted": "office wish"},
    "rounding": {"rounded": "house table base"},
    "books": {"written": "office", "read_book": "text", "handout": "office"},
}
CLASSES = {
    "houses": {"House": {"": "parts columns", "parts": "", "rows": "", "columns": "", "above": "part",
                         "beneath": "part", "places": "", "cells": ""}},
    "office": {"Office": {"": "house cells secrets", "let_out": "places", "known": "", "shut": "", "span": "place",
                          "low_sums_of": "place", "high_sums_of": "place", "house": "", "secrets": "", "outs": "",
                          "whole": ""}},
    "desk": {"Desk": {"": "", "say": "row"}},
}


def module(name):
    return importlib.import_module(f"tallyveil.{name}")


class Interface(unittest.TestCase):
    def check(self, thing, arguments):
        told = inspect.signature(thing).parameters.values()
        self.assertEqual([parameter.name for parameter in told], arguments)
        for parameter in told:
            self.assertIs(parameter.default, inspect.Parameter.empty)
            self.assertIs(parameter.kind, inspect.Parameter.POSITIONAL_OR_KEYWORD)

    def test_functions(self):
        for name, functions in FUNCTIONS.items():
            for function, arguments in functions.items():
                with self.subTest(name=name, function=function):
                    self.check(getattr(module(name), function), arguments.split())

    def test_classes(self):
        for name, classes in CLASSES.items():
            for kind, methods in classes.items():
                owner = getattr(module(name), kind)
                self.assertTrue(inspect.isclass(owner))
                for method, arguments in methods.items():
                    with self.subTest(name=name, kind=kind, method=method):
                        told = getattr(owner, method or "__init__")
                        self.check(told, ["self"] + arguments.split())


if __name__ == "__main__":
    unittest.main()
