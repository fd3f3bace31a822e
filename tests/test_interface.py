"""The interface: each name stands in its file, with the parameter names of the points."""

import importlib
import inspect
import unittest

NAMES = {
    "errors": {"InvalidHeap": "at", "InvalidPlan": "word at", "InvalidText": "at", "InvalidRun": "at",
               "InvalidTerm": "place", "InvalidCarry": "at", "InvalidDeed": "at", "InvalidOctets": "at",
               "InvalidSize": "word", "Refused": "word", "NoName": "name"},
    "heaps": {"need_heap": "value", "heap_of": "pairs", "amount": "heap place", "papers_in": "heap", "joined": "heaps",
              "times": "heap number", "within": "heap other", "taken_out": "other heap", "common": "heap other",
              "over": "heap other", "need_change": "value", "change_of": "pairs", "gap": "heap other",
              "changes_joined": "changes", "change_times": "change number", "changed": "heap change",
              "halves": "change"},
    "plans": {"Plan": "places steps start end", "step_of": "plan name", "step_change": "plan name",
              "with_step": "plan triple", "without_steps": "plan names", "only_steps": "plan names",
              "with_places": "plan names", "renamed": "plan pairs", "names_of": "plan"},
    "plantext": {"plan_text": "plan", "read_plan": "text"},
    "runs": {"need_run": "plan value", "first_stop": "plan heap run", "run_end": "plan heap run", "run_sum": "run",
             "sum_change": "plan steps", "steps_in": "run", "folded": "run", "possible": "plan heap",
             "most_times": "plan heap step", "behind_step": "plan heap step", "free": "plan step other",
             "layers": "plan plain", "alike": "plan plain other", "many_orders": "plan plain",
             "can_go_first": "plan plain at", "can_go_last": "plan plain at"},
    "closure": {"comeable": "plan", "live_steps": "plan", "rounds": "plan", "live_plan": "plan", "rousing": "plan",
                "check_rousing": "plan value"},
}


class Interface(unittest.TestCase):
    def test_names_and_parameters(self):
        for module, names in NAMES.items():
            found = importlib.import_module("caseshome." + module)
            for name, parameters in names.items():
                thing = getattr(found, name)
                self.assertEqual(thing.__module__, "caseshome." + module)
                told = inspect.signature(thing).parameters.values()
                self.assertEqual([one.name for one in told], parameters.split(), name)
                for one in told:
                    self.assertIs(one.default, inspect.Parameter.empty, name)
                    self.assertIs(one.kind, inspect.Parameter.POSITIONAL_OR_KEYWORD, name)


if __name__ == "__main__":
    unittest.main()
