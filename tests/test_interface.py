"""The interface: each name stands in its file, with the parameter names of the points."""

import importlib
import inspect
import unittest

NAMES = {
    "errors": {"InvalidHeap": "at", "InvalidPlan": "word at", "InvalidText": "at", "InvalidRun": "at",
               "InvalidTerm": "place", "InvalidCarry": "at", "InvalidDeed": "at", "InvalidOctets": "at",
               "InvalidSize": "word", "Refused": "word", "NoName": "name"},
    "heaps": {"need_heap": "value", "heap_of": "pairs", "amount": "heap place", "papers_in": "heap", "joined": "heaps",
              "times": "heap number", "within": "heap other", "taken_out": "other heap", "common": "heap other",
              "over": "heap other", "need_change": "value", "change_of": "pairs", "gap": "heap other",
              "changes_joined": "changes", "change_times": "change number", "changed": "heap change",
              "halves": "change"},
    "plans": {"Plan": "places steps start end", "step_of": "plan name", "step_change": "plan name",
              "with_step": "plan triple", "without_steps": "plan names", "only_steps": "plan names",
              "with_places": "plan names", "renamed": "plan pairs", "names_of": "plan"},
    "plantext": {"plan_text": "plan", "read_plan": "text"},
    "runs": {"need_run": "plan value", "first_stop": "plan heap run", "run_end": "plan heap run", "run_sum": "run",
             "sum_change": "plan steps", "steps_in": "run", "folded": "run", "possible": "plan heap",
             "most_times": "plan heap step", "behind_step": "plan heap step", "free": "plan step other",
             "layers": "plan plain", "alike": "plan plain other", "many_orders": "plan plain",
             "can_go_first": "plan plain at", "can_go_last": "plan plain at"},
    "closure": {"comeable": "plan", "live_steps": "plan", "rounds": "plan", "live_plan": "plan", "rousing": "plan",
                "check_rousing": "plan value"},
    "fractions": {"fraction": "top bottom", "added": "one other", "less": "one other", "multiplied": "one other",
                  "divided": "one other", "compared": "one other", "worth": "fractions numbers", "is_whole": "one",
                  "floor_of": "one", "bottom_of": "fractions"},
    "rows": {"echelon": "rows", "is_echelon": "rows", "turned_echelon": "rows", "balances": "rows",
             "transposed": "rows width", "sum_of": "rows target", "bar_of": "rows target",
             "check_sum": "rows target value", "check_bar": "rows target value", "order_of": "rows target"},
    "lattice": {"lattice": "plan", "belongs": "plan cases heap", "coordinates": "plan cases heap", "pair_at": "plan row",
                "made_by": "plan cases heap", "barred": "plan cases heap", "check_made": "plan cases heap value",
                "check_barred": "plan cases heap value", "ends_order": "plan", "classes": "plan heaps"},
    "simplex": {"Best": "cost takes prices", "Never": "prices", "Endless": "takes ring",
                "least_cost": "rows target costs", "check_cost": "rows target costs value"},
    "weights": {"kept_weights": "plan", "of_nothing": "plan", "check_weights": "plan value",
                "check_nothing": "plan value", "crew_weights": "plan crew", "crew_makes": "plan crew",
                "check_crew_weights": "plan crew value", "check_crew_makes": "plan crew value", "weights_kept": "plan",
                "weight_of": "weights heap"},
    "lists": {"least_heaps": "plan", "least_lists": "plan", "width_of": "plan", "check_lists": "plan value"},
    "sums": {"parts": "plan cases heap", "from_parts": "plan pairs", "heaps_of": "plan cases most",
             "open_cases": "plan cases heap", "least_with": "plan every"},
    "walks": {"Led": "run", "Lost": "lot", "reached": "plan crew heap most", "first_run": "plan crew heap goal most",
              "ends_of": "plan cases", "led": "plan crew cases heap most", "check_led": "plan crew cases heap value",
              "cheapest": "plan crew cases heap costs most", "check_costs": "plan value"},
    "court": {"Growing": "made", "Wide": "cases heap", "Stuck": "cases heap lot", "Whole": "endings", "Sure": "endings",
              "Unsure": "cases heap lot", "verdict": "plan most", "check_verdict": "plan value",
              "whole_or_not": "plan most", "sure": "plan crew most", "check_sure": "plan crew value"},
    "crews": {"least_crews": "plan most", "needed_steps": "plan most", "stays_whole": "plan triple",
              "only_needed": "plan most"},
    "lending": {"near": "plan cases heap most", "check_near": "plan cases heap value",
                "beside_needed": "plan cases heap most top"},
    "numbers": {"good": "plan cases most", "bad_run": "plan cases most", "good_numbers": "plan most top",
                "all_good": "plan every most"},
    "joining": {"behind": "one other", "either": "one other", "beside": "one other fork join start end",
                "inside": "plan step enter leave inner", "again": "plan enter back leave start end",
                "known_whole": "word one other", "behind_heaps": "one other", "either_heaps": "one other",
                "beside_heaps": "one other fork join start end"},
    "terms": {"need_term": "value", "plan_of": "term", "term_text": "term", "read_term": "text",
              "shape_numbers": "term", "term_heaps": "term", "runs_of": "term most"},
    "editions": {"Edition": "sums", "NoEdition": "word fractions", "need_carry": "old new value",
                 "carried": "carry heap", "carry_behind": "first second", "same_carry": "plan",
                 "is_living": "new carry", "edition": "old new carry most", "check_edition": "old new carry value",
                 "can_carry": "old new carry cases heap most", "once": "old new carry crew most",
                 "check_once": "old new carry crew value"},
    "questions": {"worth_of": "plan question cases heap", "never_below": "plan question most",
                  "is_question": "plan value", "most_per_case": "plan place most", "together": "plan heaps most"},
    "prices": {"least_mean": "plan costs most", "check_mean": "plan costs value", "rounds_of": "plan costs most",
               "check_rounds": "plan costs best value", "spare_cost": "plan costs value one",
               "cost_of": "plan cases costs most", "cost_row": "plan costs most top",
               "greatest_mean": "plan costs most"},
    "ender": {"ending": "plan cases heap most", "step_share": "plan most", "dealt": "plan cases heap most"},
    "commands": {"deed_line": "deed", "read_deed": "line"},
    "houseruns": {"run_house": "deeds most", "house_after": "deeds most", "same_house": "one other"},
    "octets": {"number_octets": "number", "text_octets": "text", "read_number": "octets at",
               "read_text": "octets at", "sum_of_octets": "octets", "frame": "body", "frames": "octets",
               "deed_octets": "deed", "log_of": "house", "opened": "octets most"},
    "sheets": {"sheet_holds": "value", "words": "", "sheet_for": "word question most"},
    "facts": {"facts_of": "sheet", "is_fact": "value"},
    "follows": {"told_by": "facts word question", "all_facts": "facts"},
    "desk": {"run_lines": "lines most"},
    "audit": {"audit": "record most"},
}
# The classes whose objects change: how they are made, and their methods, which each defines itself.
MUTABLE = {
    ("house", "House"): ({"most": 2000}, {
        "do": "deed", "depth": "", "deeds": "", "twin": "", "names": "sort", "told": "name", "hanging": "name",
        "whole_now": "plan", "heaps_now": "plan", "edition_now": "edition", "sure_now": "crew", "open_now": "floor",
        "can_now": "floor crew", "ending_now": "floor", "made_now": "floor", "carries_now": "floor",
        "roads": "floor"}),
    ("journal", "Journal"): ({"octets": (), "most": 2000}, {
        "do": "deed", "sync": "", "octets": "", "house": "", "cut": "at", "packed": ""}),
    ("desk", "Desk"): ({"most": 2000}, {"say": "line", "house": "", "record": ""}),
}
# The classes with a described ==, which each defines itself.
COMPARED = {"plans": "Plan", "simplex": "Best Never Endless", "walks": "Led Lost", "editions": "Edition NoEdition",
            "court": "Growing Wide Stuck Whole Sure Unsure"}


class Interface(unittest.TestCase):
    def test_names_and_parameters(self):
        for module, names in NAMES.items():
            found = importlib.import_module("caseshome." + module)
            for name, parameters in names.items():
                thing = getattr(found, name)
                self.assertEqual(thing.__module__, "caseshome." + module)
                told = inspect.signature(thing).parameters.values()
                self.assertEqual([one.name for one in told], parameters.split(), name)
                for one in told:
                    self.assertIs(one.default, inspect.Parameter.empty, name)
                    self.assertIs(one.kind, inspect.Parameter.POSITIONAL_OR_KEYWORD, name)

    def test_every_file_of_the_interface(self):
        told = set(NAMES) | {module for module, _ in MUTABLE}
        self.assertEqual(len(told), 34)
        for module in told:
            importlib.import_module("caseshome." + module)

    def test_classes_that_change(self):
        for (module, name), (made, methods) in MUTABLE.items():
            kind = getattr(importlib.import_module("caseshome." + module), name)
            self.assertEqual(kind.__module__, "caseshome." + module)
            told = inspect.signature(kind).parameters
            self.assertEqual({one: told[one].default for one in told}, made)
            self.assertEqual(list(told), list(made))
            self.assertEqual(kind().most, 2000)
            self.assertEqual(kind(most=7).most, 7)
            for method, parameters in methods.items():
                self.assertIn(method, vars(kind), name)
                given = list(inspect.signature(getattr(kind, method)).parameters)
                self.assertEqual(given[1:], parameters.split(), method)
            for sign in ("__len__", "__iter__"):
                self.assertNotIn(sign, dir(kind), name)
            self.assertFalse(kind() == kind(), name)

    def test_equality_is_their_own(self):
        for module, names in COMPARED.items():
            found = importlib.import_module("caseshome." + module)
            for name in names.split():
                self.assertIn("__eq__", vars(getattr(found, name)), name)
                self.assertNotIn("__len__", dir(getattr(found, name)), name)
                self.assertNotIn("__iter__", dir(getattr(found, name)), name)


if __name__ == "__main__":
    unittest.main()
