"""[2] for errors to closure: arguments, sequences, results."""

import copy
import unittest

from caseshome.closure import check_rousing, comeable, live_plan, live_steps, rounds, rousing
from caseshome.heaps import (amount, change_of, change_times, changed, changes_joined, common, gap, halves, heap_of,
                             joined, need_change, need_heap, over, papers_in, taken_out, times, within)
from caseshome.plans import (Plan, names_of, only_steps, renamed, step_change, step_of, with_places, with_step,
                             without_steps)
from caseshome.plantext import plan_text, read_plan
from caseshome.runs import (alike, behind_step, can_go_first, can_go_last, first_stop, folded, free, layers, many_orders,
                            most_times, need_run, possible, run_end, run_sum, steps_in, sum_change)
from tests.helpers import Case, great_plan

FORK = read_plan("start s\nend e\nplace z\nstep f: s -> a, b\nstep g: a -> c\nstep h: b -> d\nstep j: c, d -> e")
ONE, TWO = (("a", 2), ("b", 10 ** 12), ("s", 1)), (("a", 1), ("s", 1))
SHIFT = (("a", -1), ("c", 7))
PLAIN = ("f", "h", "g", "j")

# A function, its arguments by name in order; lists stand where a sequence is expected.
CALLS = (
    (need_heap, {"value": ONE}), (heap_of, {"pairs": [("b", 1), ("a", 2), ("b", 0)]}), (amount, {"heap": ONE, "place": "b"}),
    (papers_in, {"heap": ONE}), (joined, {"heaps": [ONE, TWO]}), (times, {"heap": ONE, "number": 3}),
    (within, {"heap": TWO, "other": ONE}), (within, {"heap": ONE, "other": TWO}), (taken_out, {"other": ONE, "heap": TWO}),
    (taken_out, {"other": TWO, "heap": ONE}), (common, {"heap": ONE, "other": TWO}), (over, {"heap": ONE, "other": TWO}),
    (need_change, {"value": SHIFT}), (change_of, {"pairs": [("b", 1), ("a", -2), ("b", 3)]}),
    (gap, {"heap": ONE, "other": TWO}), (changes_joined, {"changes": [SHIFT, ONE]}),
    (change_times, {"change": SHIFT, "number": -3}), (changed, {"heap": ONE, "change": SHIFT}),
    (changed, {"heap": (), "change": SHIFT}), (halves, {"change": SHIFT}),
    (Plan, {"places": ("a", "b"), "steps": (("t", (("a", 1),), (("b", 2),)),), "start": "a", "end": "b"}),
    (step_of, {"plan": FORK, "name": "f"}), (step_change, {"plan": FORK, "name": "f"}),
    (with_step, {"plan": FORK, "triple": ("i", (("a", 1),), (("b", 9),))}), (without_steps, {"plan": FORK, "names": ["g", "f"]}),
    (only_steps, {"plan": FORK, "names": ["g", "f"]}), (with_places, {"plan": FORK, "names": ["y", "a", "k"]}),
    (renamed, {"plan": FORK, "pairs": [("a", "zz"), ("s", "a")]}), (names_of, {"plan": FORK}), (plan_text, {"plan": FORK}),
    (read_plan, {"text": "start s\nend e\nplace z\nstep t: s -> 2 e"}), (need_run, {"plan": FORK, "value": (("f", 2),)}),
    (first_stop, {"plan": FORK, "heap": ONE, "run": (("f", 1), ("g", 9))}), (first_stop, {"plan": FORK, "heap": ONE, "run": ()}),
    (run_end, {"plan": FORK, "heap": ONE, "run": (("f", 1), ("g", 2))}), (run_sum, {"run": (("g", 1), ("f", 2), ("g", 3))}),
    (sum_change, {"plan": FORK, "steps": (("g", -1), ("f", 2))}), (steps_in, {"run": (("g", 1), ("f", 2))}),
    (folded, {"run": (("g", 1), ("g", 2))}), (possible, {"plan": FORK, "heap": ONE}),
    (most_times, {"plan": FORK, "heap": ONE, "step": "h"}), (behind_step, {"plan": FORK, "heap": ONE, "step": "h"}),
    (behind_step, {"plan": FORK, "heap": ONE, "step": "j"}), (free, {"plan": FORK, "step": "g", "other": "h"}),
    (layers, {"plan": FORK, "plain": PLAIN}), (alike, {"plan": FORK, "plain": PLAIN, "other": PLAIN}),
    (many_orders, {"plan": FORK, "plain": PLAIN}), (can_go_first, {"plan": FORK, "plain": PLAIN, "at": 1}),
    (can_go_last, {"plan": FORK, "plain": PLAIN, "at": 1}), (comeable, {"plan": FORK}), (live_steps, {"plan": FORK}),
    (rounds, {"plan": FORK}), (live_plan, {"plan": FORK}), (rousing, {"plan": FORK}),
    (check_rousing, {"plan": FORK, "value": (3, (("f", 3), ("g", 2)))}),
)


def opened_up(value):
    """What is in a plan, so that all of it is compared with its sorts."""
    if isinstance(value, Plan):
        return ("plan", value.places, value.steps, value.start, value.end)
    if isinstance(value, (tuple, list)):
        return type(value)(opened_up(part) for part in value)
    return value


class Common(Case):
    def test_by_position_and_by_names(self):
        for function, named in CALLS:
            found = opened_up(function(*named.values()))
            self.exact(opened_up(function(**named)), found)
            self.exact(opened_up(function(**dict(reversed(list(named.items()))))), found)
            first = list(named)[0]
            self.exact(opened_up(function(named[first], **{name: named[name] for name in list(named)[1:]})), found)

    def test_lists_or_tuples(self):
        for function, named in CALLS:
            as_tuples = {name: tuple(value) if isinstance(value, list) else value for name, value in named.items()}
            self.exact(opened_up(function(**as_tuples)), opened_up(function(**named)))

    def test_results_are_tuples_within(self):
        for function, named in CALLS:
            self.tuples_within(opened_up(function(**named)))

    def test_arguments_are_not_changed(self):
        kept = copy.deepcopy([list(named.values()) for _, named in CALLS])
        for function, named in CALLS:
            function(**named)
        for (_, named), before in zip(CALLS, kept):
            self.exact(opened_up(list(named.values())), opened_up(before))

    def test_one_result_whatever_calls_were_made(self):
        first = [opened_up(function(**named)) for function, named in CALLS]
        for at, (function, named) in reversed(list(enumerate(CALLS))):
            self.exact(opened_up(function(**copy.deepcopy(named))), first[at])

    def test_bools_and_not_numbers_are_told(self):
        for function, named in CALLS:
            if function in (within, free, alike, can_go_first, can_go_last, check_rousing):
                self.assertIn(function(**named), (True, False))
                self.assertIs(type(function(**named)), bool)

    def test_great_plans_are_answered(self):
        plan = great_plan()
        start = tuple((place, 10 ** 12) for place in plan.places)
        names = names_of(plan)
        run = tuple((names[k % 14], 10 ** 10 if k < 14 else 1) for k in range(200))
        for _ in range(20):
            self.assertIsNone(first_stop(plan, start, run))
            self.assertEqual(papers_in(run_end(plan, start, run)), 12 * 10 ** 12)
            self.assertTrue(check_rousing(plan, rousing(plan)))
            self.assertTrue(read_plan(plan_text(plan)) == plan)
            self.assertTrue(alike(plan, names * 2, names * 2))


if __name__ == "__main__":
    unittest.main()
