"""Looks at the names, arguments and files of what DOC.md lists in its interface."""

import importlib
import inspect
import unittest

INTERFACE = {
    "rules": {"is_rule": "thing", "beginning": "rule", "is_state": "rule thing", "asked": "rule state thing"},
    "runs": {"is_requests": "thing", "behind": "rule requests", "kept": "rule requests",
             "hits": "rule requests", "gone": "rule requests", "misses": "rule requests"},
    "named": {"recent": "places", "queue": "places", "newest": "places", "chance": "places", "tree": "places",
              "segments": "trial tried", "family": "rule_of most", "is_family": "thing"},
    "pairs": {"start": "one other", "is_arrangement": "one other thing",
              "moved": "one other arrangement number", "walked": "one other walk", "played": "one other walk",
              "arrangements": "one other"},
    "nested": {"nested": "one other", "shows_nested": "one other thing"},
    "lists": {"family_nested": "family", "line": "family requests", "going": "family requests",
              "shows_going": "family requests thing", "distances": "family requests",
              "curve": "family requests"},
    "excess": {"excess": "one other", "shows_excess": "one other thing"},
    "ratios": {"ratio": "one other", "shows_ratio": "one other thing"},
    "alike": {"alike": "one other", "shows_alike": "one other thing", "trimmed": "rule"},
    "best": {"fewest": "requests places", "plan": "requests places", "shows_fewest": "requests places thing"},
    "against": {"stood": "rule places path", "against": "rule places", "shows_against": "rule places thing"},
    "writes": {"is_accesses": "thing", "writebacks": "rule accesses", "line_writebacks": "family accesses"},
    "levels": {"levels": "first second requests"},
    "texts": {"rule_text": "rule", "read_rule": "text"},
}
# Of each class what its methods take, beside the object, and its properties.
ASKED = {"ask": "thing", "__call__": "thing", "ask_all": "*things"}
CLASSES = {
    "caches": {
        "Cache": ({"__init__": "rule", **ASKED, "undo": "", "trial": "work", "__len__": "", "__contains__": "thing",
                   "__eq__": "other", "__repr__": ""}, "rule row label things asked missed"),
        "Pinned": ({"__init__": "rule *things", **ASKED}, "pinned"),
        "Noted": ({"__init__": "rule"}, "gone"),
        "NotedPinned": ({"__init__": "rule *things", **ASKED}, "pinned gone"),
    },
    "lines": {
        "Line": ({"__init__": "family", "ask": "thing", "__call__": "thing", "undo": "", "trial": "work",
                  "__len__": "", "__eq__": "other", "__repr__": ""}, "family caches counts is_nested"),
    },
}


def arguments(function):
    """Return what a function takes, by place or by name, with a star for what takes all the rest."""
    parts = inspect.signature(function).parameters.values()
    if any(part.default is not part.empty for part in parts):
        return None
    stars = {inspect.Parameter.POSITIONAL_OR_KEYWORD: "", inspect.Parameter.VAR_POSITIONAL: "*"}
    return [stars[part.kind] + part.name for part in parts]


class InterfaceTest(unittest.TestCase):
    def test_names_of_the_arguments(self):
        for file, functions in INTERFACE.items():
            module = importlib.import_module("goesout." + file)
            for name, expected in functions.items():
                with self.subTest(file=file, name=name):
                    function = getattr(module, name)
                    self.assertTrue(inspect.isfunction(function))
                    self.assertEqual(function.__module__, module.__name__)
                    self.assertEqual(arguments(function), expected.split())

    def test_classes(self):
        for file, classes in CLASSES.items():
            module = importlib.import_module("goesout." + file)
            for name, (methods, properties) in classes.items():
                found = getattr(module, name)
                self.assertTrue(inspect.isclass(found))
                self.assertEqual((found.__name__, found.__module__), (name, module.__name__))
                # In the class itself, not only in a base class.
                for method, expected in methods.items():
                    with self.subTest(name=name, method=method):
                        self.assertTrue(inspect.isfunction(vars(found).get(method)))
                        self.assertEqual(arguments(vars(found)[method]), ["self"] + expected.split())
                for method in properties.split():
                    with self.subTest(name=name, method=method):
                        self.assertIsInstance(vars(found).get(method), property)
                        self.assertIsNone(vars(found)[method].fset)


if __name__ == "__main__":
    unittest.main()
