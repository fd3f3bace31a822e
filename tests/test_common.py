"""[2] for all functions: arguments, sequences, results."""

import copy
import unittest

from caseshome.audit import audit
from caseshome.closure import check_rousing, comeable, live_plan, live_steps, rounds, rousing
from caseshome.commands import deed_line, read_deed
from caseshome.desk import run_lines
from caseshome.ender import dealt, ending, step_share
from caseshome.facts import facts_of, is_fact
from caseshome.follows import all_facts, told_by
from caseshome.fractions import (added, bottom_of, compared, divided, floor_of, fraction, is_whole, less, multiplied,
                                 worth)
from caseshome.court import (Growing, Stuck, Sure, Unsure, Whole, Wide, check_sure, check_verdict, sure, verdict,
                             whole_or_not)
from caseshome.crews import least_crews, needed_steps, only_needed, stays_whole
from caseshome.editions import (Edition, NoEdition, can_carry, carried, carry_behind, check_edition, check_once, edition,
                                is_living, need_carry, once, same_carry)
from caseshome.heaps import (amount, change_of, change_times, changed, changes_joined, common, gap, halves, heap_of,
                             joined, need_change, need_heap, over, papers_in, taken_out, times, within)
from caseshome.house import House
from caseshome.houseruns import house_after, run_house, same_house
from caseshome.joining import (again, behind, behind_heaps, beside, beside_heaps, either, either_heaps, inside,
                               known_whole)
from caseshome.lattice import (barred, belongs, check_barred, check_made, classes, coordinates, ends_order, lattice,
                               made_by, pair_at)
from caseshome.lending import beside_needed, check_near, near
from caseshome.lists import check_lists, least_heaps, least_lists, width_of
from caseshome.numbers import all_good, bad_run, good, good_numbers
from caseshome.octets import (deed_octets, frame, frames, log_of, number_octets, opened, read_number, read_text,
                              sum_of_octets, text_octets)
from caseshome.plans import (Plan, names_of, only_steps, renamed, step_change, step_of, with_places, with_step,
                             without_steps)
from caseshome.plantext import plan_text, read_plan
from caseshome.prices import (check_mean, check_rounds, cost_of, cost_row, greatest_mean, least_mean, rounds_of,
                              spare_cost)
from caseshome.questions import is_question, most_per_case, never_below, together, worth_of
from caseshome.rows import (balances, bar_of, check_bar, check_sum, echelon, is_echelon, order_of, sum_of, transposed,
                            turned_echelon)
from caseshome.runs import (alike, behind_step, can_go_first, can_go_last, first_stop, folded, free, layers, many_orders,
                            most_times, need_run, possible, run_end, run_sum, steps_in, sum_change)
from caseshome.sheets import sheet_for, sheet_holds, words
from caseshome.simplex import Best, Endless, Never, check_cost, least_cost
from caseshome.sums import from_parts, heaps_of, least_with, open_cases, parts
from caseshome.terms import need_term, plan_of, read_term, runs_of, shape_numbers, term_heaps, term_text
from caseshome.walks import Led, Lost, check_costs, check_led, cheapest, ends_of, first_run, led, reached
from caseshome.weights import (check_crew_makes, check_crew_weights, check_nothing, check_weights, crew_makes,
                               crew_weights, kept_weights, of_nothing, weight_of, weights_kept)
from tests.helpers import Case, great_plan

FORK = read_plan("start s\nend e\nplace z\nstep f: s -> a, b\nstep g: a -> c\nstep h: b -> d\nstep j: c, d -> e")
ONE, TWO = (("a", 2), ("b", 10 ** 12), ("s", 1)), (("a", 1), ("s", 1))
SHIFT = (("a", -1), ("c", 7))
PLAIN = ("f", "h", "g", "j")
GROWS = read_plan("start s\nend e\nplace z\nstep f: s -> a\nstep g: a -> 2 a\nstep h: 2 a -> e")
ROWS, TARGET = ((2, 0, 4), (0, 3, -1), (2, 3, 3)), (4, -3, 9)
MADE = (("f", 2), ("g", 2), ("h", 2))
BAR = ((("a", (1, 3)), ("b", (0, 1)), ("c", (1, 3)), ("d", (0, 1)), ("e", (1, 3)), ("s", (1, 3)), ("z", (1, 2))), (2, 3))
EVEN = (("a", 1), ("b", 1), ("c", 1), ("d", 1), ("e", 2), ("s", 2), ("z", 1))
# A whole plan, one that is not, and plans and carries to put them together and over.
HOME = read_plan("start s\nend e\nstep f: s -> a, b\nstep g: a, b -> e\nstep h: 2 a -> 2 c\nstep k: b, c -> e")
STUCK = read_plan("start s\nend e\nstep end: 3 b -> 3 e\nstep go: s -> e\nstep pack: 2 s -> 2 b")
LEFT, RIGHT = read_plan("start l\nend m\nstep t: l -> m"), read_plan("start o\nend p\nstep u: o -> 2 r\nstep w: 2 r -> p")
CARRY = (("l", (("r", 2),)), ("m", (("p", 1),)))
LESS = (("l", (("r", 1),)), ("m", (("p", 1),)))
COSTS = (("f", 1), ("g", 2), ("h", 0), ("k", 3))
ENDINGS = (("g",), ("k",), (), ("f", "g"))
BC = (("b", 1), ("c", 1))
TERM = ("row", (("step", "a"), ("beside", "f", "j", (("step", "b"), ("again", "x", "y", "z", ("step", "c"))))))
ASKED = ((("a", 1), ("b", -2), ("c", 0), ("s", 3)), 1)
MEAN = least_mean(HOME, COSTS, 9)
ROUNDS = rounds_of(HOME, COSTS, 9)
DEEDS = [("plan", "p", LEFT), ("plan", "q", RIGHT), ("crew", "c", "p", ("t",)), ("edition", "x", "p", "q", CARRY), ("floor", "f", "p"),
         ("put", "f", 3), ("batch", (("put", "f", 1),)), ("end", "f", "c"), ("undo",)]
LINES = [deed_line(deed) for deed in DEEDS] + ["sure c", "told f", "ending f", "mean p 3", "whole q", "can f c"]
OCTETS = log_of(house_after(DEEDS, 9))
RECORD = [("depth", ("told", (0, 0)), ()), ("undo", ("did", "nothing"), ())]
SHEET = sheet_for("edition", (LEFT, RIGHT, CARRY), 9)
FACTS = [("edition", (LEFT, RIGHT, CARRY), True), ("belongs", (LEFT, 1, (("l", 1),)), True), ("sure", (LEFT, ("t",)), True)]

# A function, its arguments by name in order; lists stand where a sequence is expected.
CALLS = (
    (need_heap, {"value": ONE}), (heap_of, {"pairs": [("b", 1), ("a", 2), ("b", 0)]}), (amount, {"heap": ONE, "place": "b"}),
    (papers_in, {"heap": ONE}), (joined, {"heaps": [ONE, TWO]}), (times, {"heap": ONE, "number": 3}),
    (within, {"heap": TWO, "other": ONE}), (within, {"heap": ONE, "other": TWO}), (taken_out, {"other": ONE, "heap": TWO}),
    (taken_out, {"other": TWO, "heap": ONE}), (common, {"heap": ONE, "other": TWO}), (over, {"heap": ONE, "other": TWO}),
    (need_change, {"value": SHIFT}), (change_of, {"pairs": [("b", 1), ("a", -2), ("b", 3)]}),
    (gap, {"heap": ONE, "other": TWO}), (changes_joined, {"changes": [SHIFT, ONE]}),
    (change_times, {"change": SHIFT, "number": -3}), (changed, {"heap": ONE, "change": SHIFT}),
    (changed, {"heap": (), "change": SHIFT}), (halves, {"change": SHIFT}),
    (Plan, {"places": ("a", "b"), "steps": (("t", (("a", 1),), (("b", 2),)),), "start": "a", "end": "b"}),
    (step_of, {"plan": FORK, "name": "f"}), (step_change, {"plan": FORK, "name": "f"}),
    (with_step, {"plan": FORK, "triple": ("i", (("a", 1),), (("b", 9),))}), (without_steps, {"plan": FORK, "names": ["g", "f"]}),
    (only_steps, {"plan": FORK, "names": ["g", "f"]}), (with_places, {"plan": FORK, "names": ["y", "a", "k"]}),
    (renamed, {"plan": FORK, "pairs": [("a", "zz"), ("s", "a")]}), (names_of, {"plan": FORK}), (plan_text, {"plan": FORK}),
    (read_plan, {"text": "start s\nend e\nplace z\nstep t: s -> 2 e"}), (need_run, {"plan": FORK, "value": (("f", 2),)}),
    (first_stop, {"plan": FORK, "heap": ONE, "run": (("f", 1), ("g", 9))}), (first_stop, {"plan": FORK, "heap": ONE, "run": ()}),
    (run_end, {"plan": FORK, "heap": ONE, "run": (("f", 1), ("g", 2))}), (run_sum, {"run": (("g", 1), ("f", 2), ("g", 3))}),
    (sum_change, {"plan": FORK, "steps": (("g", -1), ("f", 2))}), (steps_in, {"run": (("g", 1), ("f", 2))}),
    (folded, {"run": (("g", 1), ("g", 2))}), (possible, {"plan": FORK, "heap": ONE}),
    (most_times, {"plan": FORK, "heap": ONE, "step": "h"}), (behind_step, {"plan": FORK, "heap": ONE, "step": "h"}),
    (behind_step, {"plan": FORK, "heap": ONE, "step": "j"}), (free, {"plan": FORK, "step": "g", "other": "h"}),
    (layers, {"plan": FORK, "plain": PLAIN}), (alike, {"plan": FORK, "plain": PLAIN, "other": PLAIN}),
    (many_orders, {"plan": FORK, "plain": PLAIN}), (can_go_first, {"plan": FORK, "plain": PLAIN, "at": 1}),
    (can_go_last, {"plan": FORK, "plain": PLAIN, "at": 1}), (comeable, {"plan": FORK}), (live_steps, {"plan": FORK}),
    (rounds, {"plan": FORK}), (live_plan, {"plan": FORK}), (rousing, {"plan": FORK}),
    (check_rousing, {"plan": FORK, "value": (3, (("f", 3), ("g", 2)))}),
    (fraction, {"top": 6, "bottom": -4}), (added, {"one": (1, 2), "other": (1, 3)}), (less, {"one": (1, 2), "other": (1, 3)}),
    (multiplied, {"one": (1, 2), "other": (2, 3)}), (divided, {"one": (1, 2), "other": (-1, 3)}),
    (compared, {"one": (1, 2), "other": (1, 3)}), (worth, {"fractions": [(1, 2), (1, 3)], "numbers": [3, 5]}),
    (is_whole, {"one": (1, 2)}), (floor_of, {"one": (-1, 2)}), (bottom_of, {"fractions": [(1, 4), (5, 6)]}),
    (echelon, {"rows": ROWS}), (is_echelon, {"rows": ROWS}), (turned_echelon, {"rows": ROWS}), (balances, {"rows": ROWS}),
    (transposed, {"rows": ROWS, "width": 3}), (sum_of, {"rows": ROWS, "target": TARGET}),
    (sum_of, {"rows": ROWS, "target": (1, 0, 0)}), (bar_of, {"rows": ROWS, "target": (1, 0, 0)}),
    (check_sum, {"rows": ROWS, "target": TARGET, "value": (2, -1, 0)}),
    (check_bar, {"rows": ROWS, "target": (1, 0, 0), "value": ((1, 2), (0, 1), (0, 1))}),
    (order_of, {"rows": ROWS, "target": (1, 3, 1)}), (lattice, {"plan": FORK}),
    (belongs, {"plan": FORK, "cases": 2, "heap": (("a", 2), ("d", 2))}), (coordinates, {"plan": FORK, "cases": -2, "heap": ONE}),
    (pair_at, {"plan": FORK, "row": (0, 1, -1, 0, 0, 2, 0, 7)}),
    (made_by, {"plan": FORK, "cases": 2, "heap": (("a", 2), ("d", 2))}), (made_by, {"plan": FORK, "cases": 2, "heap": ONE}),
    (barred, {"plan": FORK, "cases": 2, "heap": ONE}), (barred, {"plan": FORK, "cases": 0, "heap": ()}),
    (check_made, {"plan": FORK, "cases": 2, "heap": (("c", 2), ("d", 2)), "value": MADE}),
    (check_barred, {"plan": FORK, "cases": 1, "heap": (("z", 1),), "value": BAR}), (ends_order, {"plan": FORK}),
    (classes, {"plan": FORK, "heaps": [ONE, TWO, ONE, ()]}), (Best, {"cost": (1, 2), "takes": (), "prices": ((0, 1),)}),
    (Never, {"prices": ((1, 2),)}), (Endless, {"takes": ((1, 2),), "ring": ((0, 1),)}),
    (least_cost, {"rows": ROWS, "target": (4, 6, 6), "costs": (1, 2, 3)}),
    (least_cost, {"rows": ROWS, "target": (-1, 0, 0), "costs": (1, 2, 3)}),
    (least_cost, {"rows": ((1, 0), (-1, 0)), "target": (2, 0), "costs": (-1, 0)}),
    (check_cost, {"rows": ((1,),), "target": (2,), "costs": (3,), "value": Best((6, 1), ((2, 1),), ((3, 1),))}),
    (kept_weights, {"plan": FORK}), (kept_weights, {"plan": GROWS}), (of_nothing, {"plan": FORK}), (of_nothing, {"plan": GROWS}),
    (check_weights, {"plan": FORK, "value": EVEN}), (check_nothing, {"plan": GROWS, "value": (("g", 2),)}),
    (crew_weights, {"plan": GROWS, "crew": ("f", "h")}), (crew_makes, {"plan": GROWS, "crew": ("f", "g")}),
    (check_crew_weights, {"plan": FORK, "crew": ("f", "j"), "value": EVEN}),
    (check_crew_makes, {"plan": GROWS, "crew": ("f", "g"), "value": (("g", 2),)}), (weights_kept, {"plan": FORK}),
    (weight_of, {"weights": EVEN, "heap": ONE}), (least_heaps, {"plan": FORK}), (least_lists, {"plan": FORK}),
    (width_of, {"plan": FORK}), (check_lists, {"plan": FORK, "value": ((), (), ())}),
    (check_lists, {"plan": FORK, "value": least_lists(FORK)}),
    (parts, {"plan": HOME, "cases": 3, "heap": (("a", 2), ("b", 2), ("s", 1))}), (from_parts, {"plan": HOME, "pairs": ((0, 2), (3, 1))}),
    (heaps_of, {"plan": HOME, "cases": 2, "most": 99}), (open_cases, {"plan": GROWS, "cases": 2, "heap": (("e", 1),)}),
    (least_with, {"plan": HOME, "every": 2}), (Led, {"run": ("f",)}), (Lost, {"lot": ((),)}),
    (reached, {"plan": HOME, "crew": ("f", "g"), "heap": (("s", 2),), "most": 9}),
    (first_run, {"plan": HOME, "crew": ("f", "h"), "heap": (("s", 2),), "goal": (("b", 2), ("c", 2)), "most": 9}),
    (first_run, {"plan": HOME, "crew": ("f", "h"), "heap": (("s", 2),), "goal": (), "most": 9}),
    (ends_of, {"plan": HOME, "cases": 3}), (led, {"plan": HOME, "crew": ("f", "g"), "cases": 2, "heap": (("s", 2),), "most": 9}),
    (led, {"plan": HOME, "crew": ("f", "h"), "cases": 2, "heap": (("s", 2),), "most": 9}),
    (check_led, {"plan": HOME, "crew": ("f", "g"), "cases": 2, "heap": (("s", 2),), "value": Led((("f", 2), ("g", 2)))}),
    (check_led, {"plan": HOME, "crew": ("f", "g"), "cases": 1, "heap": (("c", 2),), "value": Lost(((("c", 2),),))}),
    (cheapest, {"plan": HOME, "crew": ("g", "h", "k"), "cases": 2, "heap": (("a", 2), ("b", 2)), "costs": COSTS, "most": 20}),
    (check_costs, {"plan": HOME, "value": COSTS}), (Growing, {"made": ()}), (Wide, {"cases": 1, "heap": ()}),
    (Stuck, {"cases": 1, "heap": (), "lot": ()}), (Whole, {"endings": ()}), (Sure, {"endings": ()}),
    (Unsure, {"cases": 1, "heap": (), "lot": ()}), (verdict, {"plan": HOME, "most": 9}), (verdict, {"plan": HOME, "most": 2}),
    (verdict, {"plan": GROWS, "most": 2}), (verdict, {"plan": STUCK, "most": 9}), (whole_or_not, {"plan": HOME, "most": 2}),
    (whole_or_not, {"plan": HOME, "most": 9}), (check_verdict, {"plan": HOME, "value": Whole(ENDINGS)}),
    (check_verdict, {"plan": STUCK, "value": Stuck(1, (("b", 1),), ((("b", 1),),))}), (check_verdict, {"plan": GROWS, "value": Growing((("g", 2),))}),
    (sure, {"plan": HOME, "crew": ("f", "g", "k"), "most": 9}), (sure, {"plan": HOME, "crew": ("f", "g", "h"), "most": 9}),
    (check_sure, {"plan": HOME, "crew": ("f", "g", "k"), "value": Sure(ENDINGS)}),
    (check_sure, {"plan": HOME, "crew": ("f", "g", "h"), "value": Unsure(1, BC, (BC,))}), (least_crews, {"plan": HOME, "most": 9}),
    (needed_steps, {"plan": HOME, "most": 9}), (stays_whole, {"plan": HOME, "triple": ("i", (("a", 1),), (("c", 1),))}),
    (stays_whole, {"plan": HOME, "triple": ("i", (("a", 2),), (("c", 2),))}), (only_needed, {"plan": HOME, "most": 9}),
    (near, {"plan": HOME, "cases": 2, "heap": (("b", 2), ("c", 2)), "most": 9}),
    (check_near, {"plan": HOME, "cases": 1, "heap": BC, "value": (1, (("f", 2), ("h", 1), ("k", 1)))}),
    (beside_needed, {"plan": HOME, "cases": 1, "heap": BC, "most": 9, "top": 2}), (good, {"plan": STUCK, "cases": 2, "most": 9}),
    (good, {"plan": STUCK, "cases": 1, "most": 9}), (bad_run, {"plan": STUCK, "cases": 2, "most": 9}),
    (good_numbers, {"plan": STUCK, "most": 9, "top": 3}), (all_good, {"plan": STUCK, "every": 1, "most": 9}),
    (all_good, {"plan": HOME, "every": 2, "most": 9}), (behind, {"one": LEFT, "other": RIGHT}), (either, {"one": LEFT, "other": RIGHT}),
    (beside, {"one": LEFT, "other": RIGHT, "fork": "f", "join": "j", "start": "a", "end": "b"}),
    (inside, {"plan": HOME, "step": "h", "enter": "x", "leave": "y", "inner": RIGHT}),
    (again, {"plan": LEFT, "enter": "x", "back": "y", "leave": "z", "start": "a", "end": "b"}),
    (known_whole, {"word": "behind", "one": True, "other": False}), (known_whole, {"word": "either", "one": True, "other": None}),
    (behind_heaps, {"one": LEFT, "other": RIGHT}), (either_heaps, {"one": LEFT, "other": RIGHT}),
    (beside_heaps, {"one": LEFT, "other": RIGHT, "fork": "f", "join": "j", "start": "a", "end": "b"}), (need_term, {"value": TERM}),
    (plan_of, {"term": TERM}), (term_text, {"term": TERM}), (read_term, {"text": "(a; f(b & x(c ^ y)z)j)"}), (shape_numbers, {"term": TERM}),
    (term_heaps, {"term": TERM}), (runs_of, {"term": TERM, "most": 10}), (Edition, {"sums": ()}), (NoEdition, {"word": "", "fractions": ()}),
    (need_carry, {"old": LEFT, "new": RIGHT, "value": CARRY}), (carried, {"carry": CARRY, "heap": (("l", 2), ("m", 3))}),
    (carry_behind, {"first": CARRY, "second": (("o", (("o", 1),)), ("p", (("p", 1),)), ("r", (("o", 1), ("r", 3))))}),
    (same_carry, {"plan": RIGHT}), (is_living, {"new": RIGHT, "carry": CARRY}), (edition, {"old": LEFT, "new": RIGHT, "carry": CARRY, "most": 9}),
    (edition, {"old": LEFT, "new": RIGHT, "carry": LESS, "most": 9}),
    (check_edition, {"old": LEFT, "new": RIGHT, "carry": CARRY, "value": edition(LEFT, RIGHT, CARRY, 9)}),
    (check_edition, {"old": LEFT, "new": RIGHT, "carry": LESS, "value": edition(LEFT, RIGHT, LESS, 9)}),
    (can_carry, {"old": LEFT, "new": RIGHT, "carry": LESS, "cases": 2, "heap": (("l", 2),), "most": 9}),
    (once, {"old": LEFT, "new": RIGHT, "carry": CARRY, "crew": ("w",), "most": 9}),
    (once, {"old": LEFT, "new": RIGHT, "carry": LESS, "crew": ("w",), "most": 9}),
    (check_once, {"old": LEFT, "new": RIGHT, "carry": CARRY, "crew": ("w",), "value": Sure((("w",), ()))}),
    (worth_of, {"plan": HOME, "question": ASKED, "cases": 3, "heap": (("a", 2), ("e", 1))}),
    (never_below, {"plan": HOME, "question": ASKED, "most": 9}), (is_question, {"plan": HOME, "value": ASKED}),
    (most_per_case, {"plan": HOME, "place": "a", "most": 9}), (together, {"plan": HOME, "heaps": [BC, (), BC], "most": 9}),
    (least_mean, {"plan": HOME, "costs": COSTS, "most": 9}), (check_mean, {"plan": HOME, "costs": COSTS, "value": MEAN}),
    (rounds_of, {"plan": HOME, "costs": COSTS, "most": 9}), (check_rounds, {"plan": HOME, "costs": COSTS, "best": MEAN, "value": ROUNDS}),
    (spare_cost, {"plan": HOME, "costs": COSTS, "value": ROUNDS, "one": 3}), (cost_of, {"plan": HOME, "cases": 2, "costs": COSTS, "most": 99}),
    (cost_row, {"plan": HOME, "costs": COSTS, "most": 99, "top": 3}), (greatest_mean, {"plan": HOME, "costs": COSTS, "most": 9}),
    (ending, {"plan": HOME, "cases": 2, "heap": (("a", 1), ("b", 1), ("s", 1)), "most": 9}), (step_share, {"plan": HOME, "most": 9}),
    (dealt, {"plan": HOME, "cases": 2, "heap": (("a", 1), ("b", 1), ("s", 1)), "most": 9}), (deed_line, {"deed": DEEDS[3]}), (deed_line, {"deed": DEEDS[6]}),
    (read_deed, {"line": "edition x p q, l = 2 r, m = p"}), (run_house, {"deeds": DEEDS, "most": 9}), (house_after, {"deeds": DEEDS, "most": 9}),
    (same_house, {"one": house_after(DEEDS, 9), "other": house_after(DEEDS[:-1], 9)}), (House, {"most": 9}), (number_octets, {"number": 300}),
    (text_octets, {"text": "ab"}), (read_number, {"octets": (172, 2), "at": 0}), (read_text, {"octets": (2, 97, 98), "at": 0}),
    (sum_of_octets, {"octets": (2, 97)}), (frame, {"body": (1, 2)}), (frames, {"octets": OCTETS}), (deed_octets, {"deed": DEEDS[3]}),
    (log_of, {"house": house_after(DEEDS, 9)}), (opened, {"octets": OCTETS + (7,), "most": 9}), (words, {}), (sheet_holds, {"value": SHEET}),
    (sheet_for, {"word": "edition", "question": (LEFT, RIGHT, CARRY), "most": 9}), (sheet_for, {"word": "whole", "question": LEFT, "most": 1}),
    (facts_of, {"sheet": SHEET}), (is_fact, {"value": FACTS[0]}), (told_by, {"facts": FACTS, "word": "ends", "question": (LEFT, ("t",), 1, (("l", 1),))}),
    (all_facts, {"facts": FACTS}), (run_lines, {"lines": LINES, "most": 9}), (audit, {"record": RECORD, "most": 9}),
)
CLASSES = (Plan, Best, Never, Endless, Led, Lost, Growing, Wide, Stuck, Whole, Sure, Unsure, Edition, NoEdition)


def opened_up(value):
    """What is in a plan, so that all of it is compared with its sorts."""
    if isinstance(value, House):
        return opened_up(("House", value.most, value.deeds(), value.undone(), tuple(value.told(name) for name in value.names("floor"))))
    if isinstance(value, CLASSES):
        return (type(value).__name__, *[(name, opened_up(part)) for name, part in sorted(vars(value).items())])
    if isinstance(value, (tuple, list)):
        return type(value)(opened_up(part) for part in value)
    return value


class Common(Case):
    def test_by_position_and_by_names(self):
        for function, named in CALLS:
            found = opened_up(function(*named.values()))
            self.exact(opened_up(function(**named)), found)
            self.exact(opened_up(function(**dict(reversed(list(named.items()))))), found)
            if not named:
                continue
            first = list(named)[0]
            self.exact(opened_up(function(named[first], **{name: named[name] for name in list(named)[1:]})), found)

    def test_lists_or_tuples(self):
        for function, named in CALLS:
            as_tuples = {name: tuple(value) if isinstance(value, list) else value for name, value in named.items()}
            self.exact(opened_up(function(**as_tuples)), opened_up(function(**named)))

    def test_results_are_tuples_within(self):
        for function, named in CALLS:
            self.tuples_within(opened_up(function(**named)))

    def test_arguments_are_not_changed(self):
        kept = copy.deepcopy([list(named.values()) for _, named in CALLS])
        for function, named in CALLS:
            function(**named)
        for (_, named), before in zip(CALLS, kept):
            self.exact(opened_up(list(named.values())), opened_up(before))

    def test_one_result_whatever_calls_were_made(self):
        first = [opened_up(function(**named)) for function, named in CALLS]
        for at, (function, named) in reversed(list(enumerate(CALLS))):
            self.exact(opened_up(function(**copy.deepcopy(named))), first[at])

    def test_bools_are_told(self):
        for function, named in CALLS:
            if function in (within, free, alike, can_go_first, can_go_last, is_whole, is_echelon, belongs, good, can_carry,
                            is_living, is_question, same_house, sheet_holds, is_fact):
                self.assertIs(type(function(**named)), bool)
            if function.__name__.startswith("check_") and named["value"] not in ((3, (("f", 3), ("g", 2))), ((), (), ())):
                self.assertIs(function(**named), True)

    def test_great_plans_are_answered(self):
        plan = great_plan()
        start = tuple((place, 10 ** 12) for place in plan.places)
        names = names_of(plan)
        run = tuple((names[k % 14], 10 ** 10 if k < 14 else 1) for k in range(200))
        for _ in range(20):
            self.assertIsNone(first_stop(plan, start, run))
            self.assertEqual(papers_in(run_end(plan, start, run)), 12 * 10 ** 12)
            self.assertTrue(check_rousing(plan, rousing(plan)))
            self.assertTrue(read_plan(plan_text(plan)) == plan)
            self.assertTrue(alike(plan, names * 2, names * 2))


if __name__ == "__main__":
    unittest.main()
