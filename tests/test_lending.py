"""[43]: what belongs comes about beside ended cases."""

import unittest

from caseshome.errors import Refused
from caseshome.lending import beside_needed, check_near, near
from caseshome.lists import least_heaps
from caseshome.plans import Plan
from tests.helpers import ODD, Case, generator, heap, nested, plan_of, random_heap, weighed_plan
from tests.search import (GREAT, GROWING, STUCK, WHOLE, belongs_by_hand, end_by_hand, ends, joined_by_hand, live_of, starts,
                          walk_by_hand, whole_plan)

LEND = Plan(("a", "e", "s", "z"), (("in", (("s", 1),), (("a", 1),)), ("last", (("z", 1),), (("e", 1),)),
                                   ("lend", (("a", 1), ("s", 1)), (("e", 1), ("z", 1))), ("out", (("a", 1),), (("e", 1),))),
            "s", "e")


def run_by_hand(plan, papers, run):
    """The heap behind a run, a row at a time: its first and its last time have to find what they take."""
    papers = dict(papers)
    steps = {step[0]: step for step in plan.steps}
    for name, many in run:
        _, take, lay = steps[name]
        shift = {}
        for place, number in take:
            shift[place] = shift.get(place, 0) - number
        for place, number in lay:
            shift[place] = shift.get(place, 0) + number
        for times in (0, many - 1):
            if any(papers.get(place, 0) + times * shift[place] < number for place, number in take):
                return None
        for place, number in shift.items():
            papers[place] = papers.get(place, 0) + many * number
    return tuple(sorted((place, number) for place, number in papers.items() if number))


class Near(Case):
    def holds(self, plan, cases, papers, value):
        """The property itself, and that check_near takes it."""
        self.tuples_within(value)
        others, run = value
        self.assertTrue(type(others) is int and others >= 0)
        self.assertTrue(all(type(many) is int and many >= 1 for _, many in run))
        self.exact(run_by_hand(plan, starts(plan, cases + others), run), joined_by_hand([papers, ends(plan, others)]))
        self.exact(check_near(plan, cases, papers, value), True)

    def test_examples(self):
        papers = (("z", 1),)
        self.exact((beside_needed(LEND, 1, papers, 100, 3), check_near(LEND, 1, papers, (1, (("in", 1), ("lend", 1)))),
                    check_near(LEND, 1, papers, (0, ()))), (1, True, False))
        plan = Plan(("b", "e", "s"), (("end", (("b", 3),), (("e", 3),)), ("go", (("s", 1),), (("e", 1),)),
                                      ("pack", (("s", 2),), (("b", 2),))), "s", "e")
        self.refused(Refused, {"word": "whole"}, near, plan, 1, (("e", 1),), 100)

    def test_each_least_heap(self):
        for text in WHOLE:
            plan = plan_of(text)
            for cases, papers in least_heaps(plan):
                self.holds(plan, cases, papers, self.unchanged(near, plan, cases, papers, 4000))

    def test_what_belongs(self):
        rng = generator(110)
        for _ in range(150):
            plan = whole_plan(rng, 3)
            chosen = [rng.choice(least_heaps(plan)) for _ in range(rng.randint(1, 6))]
            cases, papers = sum(one for one, _ in chosen), joined_by_hand([one for _, one in chosen])
            self.holds(plan, cases, papers, self.unchanged(near, plan, cases, papers, 4000))

    def test_nothing_and_great_numbers(self):
        many = 10 ** 12
        for text in WHOLE:
            plan = plan_of(text)
            self.holds(plan, 0, (), near(plan, 0, (), 4000))
            for cases, papers in least_heaps(plan):
                great = tuple((place, many * number) for place, number in papers)
                self.holds(plan, cases * many, great, near(plan, cases * many, great, 4000))

    def test_dead_steps(self):
        plan = plan_of("t: s -> a\nu: a -> e\nz: y -> 2 y\nx: y -> e")
        self.holds(plan, 3, heap(a=2, e=1), near(plan, 3, heap(a=2, e=1), 9))
        self.refused(Refused, {"word": "belongs"}, near, plan, 1, heap(y=1), 9)

    def test_a_step_that_has_to_be_done_less_than_never(self):
        plan = plan_of("in: s -> a\nturn: 2 a -> 2 b\nback: 3 b -> 3 a\nout: a -> e\nlast: b -> e")
        for cases, papers in ((1, heap(b=1)), (3, heap(b=3)), (7, heap(b=5, a=2)), (2, heap(b=1, s=1))):
            self.holds(plan, cases, papers, near(plan, cases, papers, 4000))

    def test_refusals_in_order(self):
        for text in STUCK + GROWING:
            plan = plan_of(text)
            for cases, papers in ((1, heap(s=1)), (1, ()), (0, heap(s=1))):
                self.refused(Refused, {"word": "whole"}, near, plan, cases, papers, 4000)
        self.refused(Refused, {"word": "whole"}, near, LEND, 1, heap(a=2), 2)
        self.refused(Refused, {"word": "belongs"}, near, LEND, 1, heap(a=2), 3)
        for cases, papers in ((0, heap(e=1)), (1, ()), (2, heap(a=1)), (1, heap(a=1, e=1)), (0, heap(a=1))):
            self.refused(Refused, {"word": "belongs"}, near, LEND, cases, papers, 4000)

    def test_greatest(self):
        lines = ["in: s -> 7 a", "out: 7 a -> e"] + [f"{one}{two}: {one} -> {two}" for one, two in ("ab", "bc", "ca", "ac", "cb", "ba")]
        plan = plan_of("\n".join(lines), places=("p", "q", "r"))
        for _ in range(10):
            self.holds(plan, 10 ** 12, heap(a=7 * 10 ** 12 - 7, b=3, c=4), near(plan, 10 ** 12, heap(a=7 * 10 ** 12 - 7, b=3, c=4), 4000))
            self.holds(GREAT, 35, heap(x=9, y=18, z=8), near(GREAT, 35, heap(x=9, y=18, z=8), 4000))


class Checked(Case):
    def test_right_and_wrong(self):
        right = (1, (("in", 1), ("lend", 1)))
        one = heap(z=1)
        self.exact(check_near(LEND, 1, one, right), True)
        self.exact(check_near(LEND, 1, one, (3, (("in", 3), ("lend", 1), ("out", 2)))), True)
        self.exact(check_near(LEND, 1, one, (2, (("in", 1), ("in", 1), ("lend", 1), ("out", 1)))), True)
        self.exact(check_near(LEND, 2, one, right), False)
        self.exact(check_near(LEND, 1, heap(z=2), right), False)
        self.exact(check_near(LEND, 1, heap(e=1), right), False)
        for wrong in ((0, right[1]), (2, right[1]), (True, right[1]), (-1, right[1]), (None, right[1]), ("1", right[1]), ((1, 1), right[1]),
                      (1, ()), (1, (("in", 1),)), (1, (("lend", 1), ("in", 1))), (1, (("in", 1), ("lend", 1), ("out", 1))),
                      (1, (("in", 2), ("lend", 1))), (1, ("in", "lend")), (1, [("in", 1), ("lend", 1)]), (1, (["in", 1], ["lend", 1])),
                      (1, (("in", True), ("lend", 1))), (1, (("in", 1), ("lend", 1), ("in", 0))), (1, (("in", 1), ("nn", 1))), (1, None),
                      (1,), (1, right[1], 1), list(right), None, 1, right[1], (1, (("in", 1), ("lend", 10 ** 3999)))):
            self.exact(check_near(LEND, 1, one, wrong), False)

    def test_no_cases(self):
        self.exact(check_near(LEND, 0, (), (0, ())), True)
        self.exact(check_near(LEND, 0, (), (1, ())), False)
        self.exact(check_near(LEND, 0, (), (2, (("in", 2), ("out", 2)))), True)
        self.exact(check_near(plan_of(""), 0, (), (0, ())), True)
        self.exact(check_near(plan_of(""), 2, heap(s=2), (0, ())), True)

    def test_plans_of_all_shapes(self):
        self.exact(check_near(plan_of(GROWING[0]), 1, heap(e=4), (1, (("t", 2), ("u", 3), ("v", 5)))), True)
        self.exact(check_near(plan_of(STUCK[0]), 1, heap(a=2), (0, (("p", 1),))), True)
        self.exact(check_near(plan_of(STUCK[0]), 1, heap(a=2), (2, (("p", 3), ("q", 1), ))), False)

    def test_ended_cases_of_its_own(self):
        self.exact(check_near(LEND, 3, heap(e=2, s=1), (0, (("in", 2), ("out", 2)))), True)
        self.exact(check_near(LEND, 3, heap(e=2, s=1), (1, (("in", 3), ("out", 3)))), True)
        self.exact(check_near(LEND, 3, heap(e=2, s=1), (1, (("in", 2), ("out", 2)))), False)

    def test_any_values(self):
        for value in ODD + (nested(80),):
            self.exact(check_near(LEND, 1, heap(z=1), value), False)
            self.exact(check_near(LEND, 1, heap(z=1), (1, value)), False)
            self.exact(check_near(LEND, 1, heap(z=1), (value, (("in", 1), ("lend", 1)))), value == 1 and value is not True)

    def test_great_runs(self):
        many = 10 ** 12
        run = tuple((("in", "out")[k % 2], many // 100) for k in range(200))
        for _ in range(20):
            self.exact(check_near(LEND, many // 2, heap(e=many // 2), (many // 2, run)), True)
            self.exact(check_near(LEND, many // 2, heap(e=many // 2), (many // 2, run[::-1])), False)

    def test_by_chance(self):
        rng = generator(111)
        counts = [0, 0]
        for _ in range(400):
            plan = whole_plan(rng)
            run, papers, others = [], starts(plan, 3), rng.randint(0, 2)
            for _ in range(rng.randint(0, 3)):
                able = [name for name in live_of(plan) if end_by_hand(plan, papers, (name,)) is not None]
                if able:
                    run.append((rng.choice(able), 1))
                    papers = end_by_hand(plan, papers, (run[-1][0],))
            there = dict(papers)
            there[plan.end] = there.get(plan.end, 0) - others
            goal = tuple(sorted((place, number) for place, number in there.items() if number > 0))
            expected = there[plan.end] >= 0
            self.exact(check_near(plan, 3 - others, goal, (others, tuple(run))), expected)
            counts[expected] += 1
        self.assertGreater(min(counts), 30)


class Needed(Case):
    def test_by_hand(self):
        rng = generator(112)
        counts = {}
        for _ in range(150):
            plan = whole_plan(rng) if rng.random() < 0.6 else weighed_plan(rng, 4, 3, 2, 2)
            cases, papers = rng.choice(least_heaps(plan)) if rng.random() < 0.8 else (1, random_heap(rng, plan.places, 2, 2))
            most, top, expected = rng.choice((4, 10, 60)), rng.randint(0, 3), None
            for others in range(top + 1):
                found = walk_by_hand(plan, live_of(plan), starts(plan, cases + others), most)
                if found is None:
                    expected = "many"
                    break
                if joined_by_hand([papers, ends(plan, others)]) in found:
                    expected = others
                    break
            if expected == "many":
                self.refused(Refused, {"word": "many"}, beside_needed, plan, cases, papers, most, top)
            else:
                self.exact(self.unchanged(beside_needed, plan, cases, papers, most, top), expected)
            counts[expected] = counts.get(expected, 0) + 1
        self.assertTrue(all(counts.get(told, 0) > 5 for told in (0, None, "many")))

    def test_least_number(self):
        self.exact([beside_needed(LEND, 2, heap(z=2), 100, top) for top in range(4)], [None, None, 2, 2])
        self.exact([beside_needed(LEND, 1, heap(z=1), 100, top) for top in range(3)], [None, 1, 1])
        self.exact(beside_needed(LEND, 0, (), 1, 0), 0)
        self.exact(beside_needed(LEND, 1, heap(e=1), 100, 12), 0)
        self.exact(beside_needed(plan_of(""), 1, heap(e=1), 1, 12), None)
        self.exact(beside_needed(plan_of(""), 3, heap(s=3), 1, 0), 0)

    def test_refused_at_the_first_number_that_is_too_wide(self):
        sizes = [len(walk_by_hand(LEND, live_of(LEND), starts(LEND, cases))) for cases in range(5)]
        self.exact(sizes == sorted(sizes) and len(set(sizes)) == 5, True)
        # (1, z) needs one other: two papers at the start have to be walked for it.
        self.exact(beside_needed(LEND, 1, heap(z=1), sizes[2], 3), 1)
        self.refused(Refused, {"word": "many"}, beside_needed, LEND, 1, heap(z=1), sizes[2] - 1, 3)
        self.exact(beside_needed(LEND, 1, heap(z=1), sizes[1], 0), None)
        self.refused(Refused, {"word": "many"}, beside_needed, LEND, 1, heap(z=1), sizes[1] - 1, 0)
        self.refused(Refused, {"word": "many"}, beside_needed, LEND, 1, heap(s=1), sizes[1] - 1, 0)
        # What none will do is refused at the first number that is too wide, or never.
        self.refused(Refused, {"word": "many"}, beside_needed, LEND, 1, heap(z=7), sizes[3], 3)
        self.exact(beside_needed(LEND, 1, heap(z=7), sizes[3], 2), None)

    def test_weights(self):
        self.refused(Refused, {"word": "weights"}, beside_needed, plan_of(GROWING[0]), 1, heap(s=1), 1, 0)
        # The live steps may lower weights: no kept ones are asked.
        self.exact(beside_needed(plan_of(GROWING[1]), 1, heap(e=2), 3, 0), 0)
        lowers = plan_of("t: s -> a\nu: 2 s -> a\nv: a -> e")
        self.exact([beside_needed(lowers, 2, heap(e=1), 100, 0), beside_needed(lowers, 2, heap(a=2), 8, 3)], [0, 0])
        dead = plan_of("t: s -> e\nz: y -> 2 y")
        self.exact(beside_needed(dead, 1, heap(e=1), 2, 0), 0)

    def test_greatest(self):
        plan = plan_of("in: s -> a\nturn: 2 a -> 2 b\nout: b -> e")
        for _ in range(10):
            self.exact(beside_needed(plan, 1, heap(b=1), 300, 12), 1)
            self.refused(Refused, {"word": "many"}, beside_needed, plan, 1, heap(a=3), 200, 12)
            self.exact(beside_needed(plan, 1, heap(a=3), 300, 12), None)
        many = 10 ** 12
        self.refused(Refused, {"word": "many"}, beside_needed, plan, many, heap(e=many), 300, 12)
        self.exact(beside_needed(plan_of(""), many, heap(s=many), 300, 12), 0)

    def test_what_belongs_to_a_whole_plan_needs_so_many_or_less(self):
        rng = generator(113)
        for _ in range(40):
            plan = whole_plan(rng)
            cases, papers = rng.choice(least_heaps(plan))
            self.assertTrue(belongs_by_hand(plan, cases, papers))
            others = near(plan, cases, papers, 4000)[0]
            if others <= 3 and walk_by_hand(plan, live_of(plan), starts(plan, cases + others), 300) is not None:
                self.assertTrue(beside_needed(plan, cases, papers, 300, others) <= others)


if __name__ == "__main__":
    unittest.main()
