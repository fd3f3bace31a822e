"""[57] and [58]: questions."""

import unittest
from fractions import Fraction

from caseshome.errors import Refused
from caseshome.lists import least_heaps
from caseshome.plantext import read_plan
from caseshome.questions import is_question, most_per_case, never_below, together, worth_of
from tests.helpers import ODD, Case, generator, heap, live_by_hand, nested, plan_of, random_heap
from tests.search import GREAT, GROWING, STUCK, WHOLE, joined_by_hand, live_of, starts, walk_by_hand, whole_plan

PLAN = read_plan("start s\nend e\nstep go: s -> a\nstep home: a -> e\nstep late: z -> e\nstep lend: a, s -> e, z")
QUESTION = ((("a", 1), ("s", 0), ("z", -1)), 0)


def worth_by_adding(plan, question, cases, papers):
    total = 0
    for place, number in papers:
        for _ in range(number):
            total += -question[1] if place == plan.end else dict(question[0])[place]
    for _ in range(cases):
        total += question[1]
    return total


def some_question(rng, plan, most=3):
    return tuple((place, rng.randint(-most, most)) for place in plan.places if place != plan.end), rng.randint(-most, most)


class Questions(Case):
    def test_examples(self):
        self.exact((never_below(PLAN, QUESTION, 2000), most_per_case(PLAN, "z", 2000), worth_of(PLAN, QUESTION, 3, (("e", 1), ("z", 2)))),
                   ((1, (("z", 1),)), (1, 1), -2))

    def test_worth(self):
        rng = generator(160)
        for _ in range(200):
            plan = whole_plan(rng) if rng.random() < 0.8 else plan_of(rng.choice(GROWING))
            question, papers, cases = some_question(rng, plan, 5), random_heap(rng, plan.places, 4, 4), rng.randint(0, 6)
            self.exact(self.unchanged(worth_of, plan, question, cases, papers), worth_by_adding(plan, question, cases, papers))
        self.exact(worth_of(PLAN, QUESTION, 0, ()), 0)
        self.exact(worth_of(PLAN, (QUESTION[0], 10 ** 6), 10 ** 12, heap(e=1, a=10 ** 12)), 10 ** 12 + 10 ** 6 * (10 ** 12 - 1))
        self.exact(worth_of(PLAN, (QUESTION[0], 7), 1, heap(e=4)), -21)

    def test_never_below_by_hand(self):
        rng = generator(161)
        counts = [0, 0]
        for _ in range(200):
            plan = whole_plan(rng)
            question = some_question(rng, plan)
            if rng.random() < 0.6:
                question = (tuple((place, abs(number)) for place, number in question[0]), question[1] + 1)
            below = [pair for pair in least_heaps(plan) if worth_by_adding(plan, question, *pair) < 0]
            told = self.unchanged(never_below, plan, question, 4000)
            self.exact(told, below[0] if below else None)
            counts[bool(below)] += 1
            found = walk_by_hand(plan, live_of(plan), starts(plan, 3), 200)
            if not below and found is not None:
                self.assertTrue(all(worth_by_adding(plan, question, 3, papers) >= 0 for papers in found))
        self.assertGreater(min(counts), 25)

    def test_just_nought_is_not_below(self):
        self.exact(never_below(PLAN, ((("a", 0), ("s", 0), ("z", 0)), 0), 2000), None)
        self.exact(never_below(PLAN, ((("a", -1), ("s", -1), ("z", -1)), 1), 2000), None)
        self.exact(never_below(PLAN, ((("a", -1), ("s", -2), ("z", -1)), 1), 2000), (1, heap(s=1)))
        self.exact(never_below(PLAN, ((("a", 0), ("s", 0), ("z", 0)), -1), 2000), (1, heap(a=1)))
        self.exact(never_below(PLAN, ((("a", -10 ** 6), ("s", 0), ("z", -5)), 0), 2000), (1, heap(a=1)))

    def test_is_question(self):
        self.exact(is_question(PLAN, QUESTION), True)
        self.exact(is_question(PLAN, ((("a", -10 ** 3999), ("s", 10 ** 30), ("z", 0)), -10 ** 40)), True)
        self.exact(is_question(plan_of(""), ((("s", 1),), 0)), True)
        weights = QUESTION[0]
        for at in range(3):
            for wrong in ((), None, list(weights[at]), (weights[at][0], True), (weights[at][0], None), (weights[at][0], (1, 1)), (weights[at][0],),
                          ("e", 1), ("b", 1), weights[(at + 1) % 3], (weights[at][0], 1, 1), weights[at][0], ([weights[at][0]], 1)):
                self.exact(is_question(PLAN, (weights[:at] + (wrong,) + weights[at + 1:], 0)), False)
            self.exact(is_question(PLAN, (weights[:at] + weights[at + 1:], 0)), False)
            self.exact(is_question(PLAN, (weights[:at + 1] + weights[at:], 0)), False)
        self.exact(is_question(PLAN, ((("a", 1), ("e", 0), ("s", 0), ("z", -1)), 0)), False)
        for wrong in ((weights, True), (weights, None), (weights, "0"), (weights, (0, 1)), (weights,), (weights, 0, 0), [weights, 0],
                      (list(weights), 0), (weights[::-1], 0), (None, 0), (0, weights), weights):
            self.exact(is_question(PLAN, wrong), False)
        for value in ODD + (nested(80),):
            self.exact(is_question(PLAN, value), False)
            self.exact(is_question(PLAN, (value, 0)), False)
            self.exact(is_question(PLAN, (weights, value)), type(value) is int)

    def test_refused(self):
        for text in STUCK + GROWING:
            plan = plan_of(text)
            question = (tuple((place, 1) for place in plan.places if place != plan.end), 0)
            self.refused(Refused, {"word": "whole"}, never_below, plan, question, 4000)
            self.refused(Refused, {"word": "whole"}, most_per_case, plan, "s", 4000)
            self.refused(Refused, {"word": "whole"}, together, plan, [heap(s=1)], 4000)
        for function, argument in ((never_below, QUESTION), (most_per_case, "z"), (together, [])):
            self.refused(Refused, {"word": "whole"}, function, PLAN, argument, 2)
            function(PLAN, argument, 3)


class Shares(Case):
    def test_most_per_case_by_hand(self):
        rng = generator(162)
        seen = set()
        for _ in range(150):
            plan = whole_plan(rng)
            place = rng.choice([place for place in plan.places if place != plan.end])
            shares = [Fraction(dict(papers).get(place, 0), cases - dict(papers).get(plan.end, 0))
                      for cases, papers in least_heaps(plan) if papers != ((plan.end, 1),)]
            told = self.unchanged(most_per_case, plan, place, 4000)
            self.exact(told, (max(shares).numerator, max(shares).denominator))
            seen.add(told)
            found = walk_by_hand(plan, live_of(plan), starts(plan, 3), 200)
            for papers in found or ():
                open_ones = 3 - dict(papers).get(plan.end, 0)
                self.assertTrue(dict(papers).get(place, 0) * told[1] <= told[0] * open_ones)
        self.assertGreater(len(seen), 1)

    def test_shapes(self):
        for text, place, told in (("f: s -> 2 a\nj: 2 a -> e", "a", (2, 1)), ("t: 3 s -> 2 a\nu: 2 a -> 3 e\nv: s -> e", "a", (2, 3)),
                                  ("t: s -> e", "s", (1, 1)), ("t: s -> e\nz: y -> e", "y", (0, 1)), (WHOLE[10], "a", (1, 1)),
                                  ("t: 4 s -> 6 a\nu: 6 a -> 4 e\nv: s -> e", "a", (3, 2)), (WHOLE[11], "d", (2, 1))):
            self.exact(most_per_case(plan_of(text), place, 4000), told)
        self.exact(most_per_case(plan_of("t: s -> e", places=("x",)), "x", 9), (0, 1))

    def test_together(self):
        plan = plan_of("t: s -> a, b\nu: a, b -> e\nz: y -> x", places=("w",))
        heaps = [(), heap(a=10 ** 12, b=1, s=7, e=2), heap(y=1), heap(a=1, x=1), heap(w=1), heap(s=1), heap(e=3)]
        self.exact(self.unchanged(together, plan, heaps, 9), (True, True, False, False, False, True, True))
        self.exact(together(plan, tuple(heaps), 9), (True, True, False, False, False, True, True))
        self.exact(together(plan, [], 9), ())

    def test_together_by_hand(self):
        rng = generator(163)
        counts = [0, 0]
        for _ in range(60):
            plan = whole_plan(rng)
            papers = random_heap(rng, plan.places, 1, 2)
            told = together(plan, [papers], 4000)[0]
            self.exact(told, all(place in live_by_hand(plan)[0] for place, _ in papers))
            counts[told] += 1
            for cases in range(1, 6):
                found = walk_by_hand(plan, live_of(plan), starts(plan, cases), 300)
                if found and any(joined_by_hand([papers, there]) != there and all(
                        dict(there).get(place, 0) >= number for place, number in papers) for there in found):
                    self.assertIs(told, True)
        self.assertGreater(counts[True], 20)

    def test_greatest(self):
        lines = ["in: s -> 7 a", "out: 7 a -> e"] + [f"{one}{two}: {one} -> {two}" for one, two in ("ab", "bc", "ca", "ac", "cb", "ba")]
        plan = plan_of("\n".join(lines), places=("p", "q", "r"))
        question = (tuple((place, 10 ** 6 - 1) for place in plan.places if place != "e"), -10 ** 6)
        for _ in range(10):
            self.exact(never_below(plan, question, 4000), (1, heap(s=1)))
            self.exact(most_per_case(plan, "b", 4000), (7, 1))
            self.exact(together(plan, [heap(a=1, b=1, c=1)] * 9, 4000), (True,) * 9)
            self.exact(most_per_case(GREAT, "z", 4000), (1, 1))
            self.exact(never_below(GREAT, (tuple((place, -1 if place == "z" else 1) for place in GREAT.places if place != "e"), 0), 4000),
                       (8, heap(z=8)))


if __name__ == "__main__":
    unittest.main()
