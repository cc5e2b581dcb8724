"""Looks at the names, arguments and files of what DOC.md lists in its interface."""

import importlib
import inspect
import unittest

INTERFACE = {
    "rules": {"is_rule": "thing", "beginning": "rule", "is_state": "rule thing", "asked": "rule state thing"},
    "runs": {"is_requests": "thing", "behind": "rule requests", "kept": "rule requests",
             "hits": "rule requests", "gone": "rule requests", "misses": "rule requests"},
    "named": {"recent": "places", "queue": "places", "newest": "places", "chance": "places", "tree": "places",
              "segments": "trial tried", "family": "rule_of most", "is_family": "thing"},
    "pairs": {"start": "one other", "is_arrangement": "one other thing",
              "moved": "one other arrangement number", "walked": "one other walk", "played": "one other walk",
              "arrangements": "one other"},
    "nested": {"nested": "one other", "shows_nested": "one other thing"},
    "lists": {"family_nested": "family", "line": "family requests", "going": "family requests",
              "shows_going": "family requests thing", "distances": "family requests",
              "curve": "family requests"},
    "excess": {"excess": "one other", "shows_excess": "one other thing"},
    "ratios": {"ratio": "one other", "shows_ratio": "one other thing"},
    "alike": {"alike": "one other", "shows_alike": "one other thing", "trimmed": "rule"},
    "best": {"fewest": "requests places", "plan": "requests places", "shows_fewest": "requests places thing"},
    "against": {"stood": "rule places path", "against": "rule places", "shows_against": "rule places thing"},
    "writes": {"is_accesses": "thing", "writebacks": "rule accesses", "line_writebacks": "family accesses"},
}


class InterfaceTest(unittest.TestCase):
    def test_names_of_the_arguments(self):
        for file, functions in INTERFACE.items():
            module = importlib.import_module("goesout." + file)
            for name, expected in functions.items():
                with self.subTest(file=file, name=name):
                    function = getattr(module, name)
                    self.assertTrue(inspect.isfunction(function))
                    self.assertEqual(function.__module__, module.__name__)
                    found = inspect.signature(function).parameters.values()
                    self.assertEqual([part.name for part in found], expected.split())
                    for part in found:
                        # By place or by name, and none may be left out.
                        self.assertEqual((part.kind, part.default),
                                         (part.POSITIONAL_OR_KEYWORD, part.empty))


if __name__ == "__main__":
    unittest.main()
