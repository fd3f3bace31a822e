"""[41] and [42]: least crews, needed steps, steps that leave a plan whole."""

import itertools
import unittest

from caseshome.court import Sure, Whole, sure, verdict
from caseshome.crews import least_crews, needed_steps, only_needed, stays_whole
from caseshome.errors import InvalidPlan, Refused
from caseshome.lists import least_heaps
from caseshome.plans import Plan, names_of, only_steps, with_step
from tests.helpers import LETTERS, Case, generator, heap, live_by_hand, plan_of, random_heap
from tests.search import GROWING, STUCK, WHOLE, first_lost, form_of, live_of, walk_by_hand, whole_plan

PLAN = Plan(("a", "e", "s"), (("in", (("s", 1),), (("a", 1),)), ("out", (("a", 1),), (("e", 1),)),
                              ("quick", (("s", 1),), (("e", 1),))), "s", "e")
TURNS = Plan(("a", "b", "e", "s"), (("in", (("s", 1),), (("a", 2),)), ("out", (("b", 2),), (("e", 1),)),
                                    ("turn", (("a", 2),), (("b", 2),))), "s", "e")


def crews_by_hand(plan):
    """All least sure crews, all crews of live steps gone through one by one."""
    live, pairs, sure_ones = live_of(plan), least_heaps(plan), []
    for many in range(len(live) + 1):
        for crew in itertools.combinations(live, many):
            if first_lost(plan, crew, pairs) is None:
                sure_ones.append(crew)
    return tuple(sorted([crew for crew in sure_ones if not any(set(other) < set(crew) for other in sure_ones)],
                        key=lambda crew: (len(crew), crew))), sure_ones


def widest(plan):
    return max(len(walk_by_hand(plan, live_of(plan), papers)) for _, papers in least_heaps(plan))


class Crews(Case):
    def test_examples(self):
        self.exact((least_crews(PLAN, 100), needed_steps(PLAN, 100), names_of(only_needed(PLAN, 100))),
                   ((("in", "out"), ("out", "quick")), ("out",), ("in", "out")))

    def test_by_hand(self):
        rng = generator(100)
        several = needed = 0
        for _ in range(80):
            plan = whole_plan(rng, 3)
            if len(plan.steps) > 7:
                continue
            most = widest(plan)
            expected, sure_ones = crews_by_hand(plan)
            found = self.unchanged(least_crews, plan, most)
            self.exact(found, expected)
            in_all = tuple(sorted(set.intersection(*[set(crew) for crew in sure_ones])))
            self.exact(self.unchanged(needed_steps, plan, most), in_all)
            self.exact(in_all, tuple(name for name in live_of(plan) if all(name in crew for crew in found)))
            self.assertTrue(self.unchanged(only_needed, plan, most) == only_steps(plan, found[0]))
            several += len(found) > 1
            needed += len(in_all) > 0
            for crew in found:
                self.assertTrue(isinstance(sure(plan, crew, most), Sure))
        self.assertGreater(min(several, needed), 15)

    def test_dead_steps(self):
        plan = plan_of("in: s -> a\nout: a -> e\nquick: s -> e\nz: y -> 2 y\nb: y -> a")
        self.exact(least_crews(plan, 3), (("in", "out"), ("out", "quick")))
        self.exact(needed_steps(plan, 3), ("out",))
        self.assertTrue(only_needed(plan, 3) == only_steps(plan, ("b", "in", "out", "z")))
        lone = plan_of("t: s -> e\na: y -> x")
        self.exact((least_crews(lone, 2), needed_steps(lone, 2)), ((("t",),), ("t",)))
        self.assertTrue(only_needed(lone, 2) == lone)

    def test_all_are_needed(self):
        plan = plan_of("f: s -> a, b\ng: a -> c\nh: b -> d\nj: c, d -> e")
        self.exact((least_crews(plan, 9), needed_steps(plan, 9)), ((("f", "g", "h", "j"),), ("f", "g", "h", "j")))
        self.assertTrue(only_needed(plan, 9) == plan)

    def test_none_is_needed(self):
        plan = plan_of("t: s -> e\nu: s -> e")
        self.exact((least_crews(plan, 2), needed_steps(plan, 2)), ((("t",), ("u",)), ()))
        self.assertTrue(only_needed(plan, 2) == only_steps(plan, ("t",)))

    def test_fewest_steps_first(self):
        plan = plan_of("a: s -> p\nb: p -> q\nc: q -> e\nd: p -> e\nz: s -> e")
        self.exact(least_crews(plan, 9), (("a", "b", "c"), ("a", "c", "d"), ("b", "c", "z"), ("c", "d", "z")))
        plan = plan_of("a: s -> p\nb: p -> q\nc: q -> e\nw: p -> e\nx: q -> p\nz: s -> e")
        self.exact(least_crews(plan, 9), crews_by_hand(plan)[0])
        self.exact(least_crews(plan, 9)[0], ("a", "b", "c"))

    def test_refused(self):
        for function in (least_crews, needed_steps, only_needed):
            for text in STUCK + GROWING:
                self.refused(Refused, {"word": "whole"}, function, plan_of(text), 4000)
            self.refused(Refused, {"word": "whole"}, function, PLAN, 2)
            function(PLAN, 3)

    def test_a_plan_of_a_sure_crew_is_whole_if_all_are_live(self):
        rng = generator(101)
        for _ in range(40):
            plan = whole_plan(rng, 2)
            if len(plan.steps) < 8:
                for crew in least_crews(plan, 4000):
                    smaller = only_steps(plan, crew)
                    if live_of(smaller) == crew:
                        self.assertTrue(isinstance(verdict(smaller, 4000), Whole))

    def test_greatest(self):
        # Eight live steps, least heaps that lead to 254 heaps in all.
        lines = ["in: s -> 6 a", "out: 6 a -> e", "op: 6 b -> e"] + ["ab: a -> b", "ba: b -> a", "x: 2 a -> 2 b", "y: 2 b -> 2 a",
                                                                  "z: 3 a -> 3 b"]
        plan = plan_of("\n".join(lines), places=("k", "l", "m"))
        for _ in range(6):
            found = least_crews(plan, 300)
            self.exact(needed_steps(plan, 300), ("in",))
        self.exact(found, crews_by_hand(plan)[0])
        ring = plan_of("\n".join(["in: s -> a", "out: a -> e"] + [f"{one}{two}: {one} -> {two}" for one, two in
                                                                  ("ab", "bc", "cd", "df", "fg", "ga")]))
        for _ in range(6):
            self.exact(least_crews(ring, 300), (("bc", "cd", "df", "fg", "ga", "in", "out"),))


class Staying(Case):
    def test_examples(self):
        self.exact((stays_whole(TURNS, ("both", (("a", 4),), (("b", 4),))), stays_whole(TURNS, ("one", (("a", 1),), (("b", 1),)))),
                   (True, None))

    def test_comeable_and_belonging(self):
        plan = plan_of("in: s -> 2 a\nout: 2 a -> e", places=("x", "y"))
        for take, lay, told in (("2 a", "e", True), ("a", "a", True), ("s", "e", True), ("2 s", "2 a, e", True), ("4 a", "2 e", True),
                                ("a", "e", None), ("s", "a", None), ("s", "4 a", None), ("x", "x", None), ("2 a, x", "e, x", None),
                                ("2 a", "e, x", None), ("3 a", "a, e", True), ("s, a", "e, a", True), ("x", "y", None)):
            step = plan_of(f"z: {take} -> {lay}").steps[0]
            self.exact(self.unchanged(stays_whole, plan, step), told)

    def test_by_chance(self):
        rng = generator(102)
        counts = [0, 0]
        for _ in range(500):
            plan = whole_plan(rng)
            name = rng.choice([letter for letter in LETTERS if letter not in names_of(plan)])
            step = (name, random_heap(rng, [place for place in plan.places if place != plan.end], 2, 2),
                    random_heap(rng, [place for place in plan.places if place != plan.start], 2, 2))
            told = stays_whole(plan, step)
            shift = [dict(step[2]).get(place, 0) - dict(step[1]).get(place, 0) for place in plan.places]
            form = form_of(plan)
            rest = list(shift) + [0]
            for head in form:
                at = next(k for k, number in enumerate(head) if number)
                times = rest[at] // head[at]
                rest = [one - times * two for one, two in zip(rest, head)]
            expected = not any(rest) and all(place in live_by_hand(plan)[0] for place, _ in step[1])
            self.exact(told, True if expected else None)
            counts[expected] += 1
            if expected:
                further = with_step(plan, step)
                self.assertTrue(isinstance(verdict(further, 4000), Whole))
                self.exact(least_heaps(further), least_heaps(plan))
        self.assertGreater(min(counts), 20)

    def test_errors(self):
        self.refused(Refused, {"word": "used"}, stays_whole, TURNS, ("in", (("a", 1),), (("b", 1),)))
        self.refused(Refused, {"word": "used"}, stays_whole, TURNS, ("out", (("zz", 1),), (("b", 1),)))
        for name, at in (("a", 0), ("j", 1), ("p", 2), ("z", 3)):
            for take, lay in ((heap(zz=1), heap(b=1)), (heap(a=1), heap(zz=1)), ((), heap(b=1)), (heap(a=1), ()), (heap(a=10), heap(b=1)),
                              (heap(e=1), heap(b=1)), (heap(a=1), heap(s=1)), (heap(a=1), heap(b=10))):
                self.refused(InvalidPlan, {"word": "steps", "at": at}, stays_whole, TURNS, (name, take, lay))

    def test_nothing_is_told_of_a_most(self):
        # All that it needs to know of the plan is told by what belongs to it.
        self.exact(stays_whole(plan_of(WHOLE[10]), ("zz", heap(a=9), heap(e=9))), True)


if __name__ == "__main__":
    unittest.main()
