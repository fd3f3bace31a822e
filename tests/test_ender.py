"""[63]: what ends whatever came about."""

import unittest
from fractions import Fraction

from caseshome.court import verdict
from caseshome.ender import dealt, ending, step_share
from caseshome.errors import Refused
from caseshome.lists import least_heaps
from caseshome.plantext import read_plan
from caseshome.sums import from_parts, open_cases, parts
from tests.helpers import Case, as_heap, generator, heap, plan_of, step_by_hand, triple_of
from tests.search import (GREAT, GROWING, STUCK, WHOLE, belongs_by_hand, ends, joined_by_hand, live_of, starts,
                          walk_by_hand, whole_plan)

PACK = read_plan("start s\nend e\nstep go: s -> a\nstep home: a -> e\nstep pack: 7 a -> 7 e")
HOME = plan_of("f: s -> a, b\ng: a, b -> e\nh: 2 a -> 2 c\nk: b, c -> e")


def behind_rows(plan, papers, run):
    """The papers behind a run, each row done at once by what its first and its last time find, None if it cannot be."""
    papers = dict(papers)
    for name, many in run:
        _, take, lay = triple_of(plan, name)
        shift = {}
        for place, number in lay:
            shift[place] = shift.get(place, 0) + number
        for place, number in take:
            shift[place] = shift.get(place, 0) - number
        for place, number in take:
            for done in (0, many - 1):
                if papers.get(place, 0) + done * shift[place] < number:
                    return None
        for place, number in shift.items():
            papers[place] = papers.get(place, 0) + many * number
    return as_heap({place: number for place, number in papers.items() if number})


def single_steps(plan, papers, run):
    """The papers behind a run of not too many steps, gone through one by one."""
    papers = dict(papers)
    for name, many in run:
        for _ in range(many):
            papers = step_by_hand(papers, triple_of(plan, name))
            if papers is None:
                return None
    return as_heap(papers)


def ending_by_hand(plan, found, most):
    """The run of the parts (number, times), folded, and the pairs that were dealt."""
    endings = verdict(plan, most).endings
    rows = []
    for at, many in found:
        for name in endings[at]:
            if rows and rows[-1][0] == name:
                rows[-1] = (name, rows[-1][1] + many)
            else:
                rows.append((name, many))
    return tuple(rows), tuple((many, endings[at]) for at, many in found)


def led_by_hands(rng, plan, cases, most=40):
    """A heap to which hands lead so many cases, by any steps."""
    papers = dict(starts(plan, cases))
    for _ in range(rng.randint(0, most)):
        ways = [step_by_hand(papers, step) for step in plan.steps]
        ways = [papers for papers in ways if papers is not None]
        if not ways:
            break
        papers = rng.choice(ways)
    return as_heap(papers)


class Endings(Case):
    def test_examples(self):
        there = (("a", 7), ("s", 1))
        self.exact((ending(PACK, 8, there, 2000), dealt(PACK, 8, there, 2000), step_share(PACK, 2000)),
                   ((("home", 7), ("go", 1), ("home", 1)), ((7, ("home",)), (1, ("go", "home"))), (2, 1)))
        self.refused(Refused, {"word": "belongs"}, ending, PACK, 2, (("a", 1),), 2000)

    def test_what_hands_led_to(self):
        rng = generator(150)
        for at in range(150):
            plan = plan_of(rng.choice(WHOLE)) if at % 2 else whole_plan(rng)
            cases = rng.randint(0, 12)
            there = led_by_hands(rng, plan, cases)
            run = self.unchanged(ending, plan, cases, there, 2000)
            self.tuples_within(run)
            self.exact(single_steps(plan, there, run), ends(plan, cases))
            self.exact(run, ending_by_hand(plan, parts(plan, cases, there), 2000)[0])
            steps = sum(many for _, many in run)
            self.assertLessEqual(steps, Fraction(*step_share(plan, 2000)) * open_cases(plan, cases, there))

    def test_sums_of_least_heaps(self):
        rng = generator(151)
        for at in range(150):
            plan = whole_plan(rng)
            pairs = least_heaps(plan)
            chosen = sorted(rng.sample(range(len(pairs)), rng.randint(0, len(pairs))))
            # At most 10 ** 12 papers in a place.
            most = 10 ** 12 // (9 * len(pairs)) if at % 2 else 5
            cases, there = from_parts(plan, tuple((number, rng.randint(1, most)) for number in chosen))
            run = ending(plan, cases, there, 2000)
            self.exact(behind_rows(plan, there, run), ends(plan, cases))
            if at % 2 == 0:
                self.exact(single_steps(plan, there, run), ends(plan, cases))
            found = parts(plan, cases, there)
            self.exact((run, self.unchanged(dealt, plan, cases, there, 2000)), ending_by_hand(plan, found, 2000))
            self.assertLessEqual(sum(many for _, many in run),
                                 Fraction(*step_share(plan, 2000)) * open_cases(plan, cases, there))
            for before, row in zip(run, run[1:]):
                self.assertNotEqual(before[0], row[0])

    def test_what_was_dealt_is_the_heap(self):
        rng = generator(152)
        for _ in range(60):
            plan = whole_plan(rng)
            cases = rng.randint(0, 9)
            there = led_by_hands(rng, plan, cases)
            least = {run: papers for (_, papers), run in zip(least_heaps(plan), verdict(plan, 2000).endings)}
            told = dealt(plan, cases, there, 2000)
            if len(least) == len(least_heaps(plan)):
                self.exact(joined_by_hand([least[run] for many, run in told for _ in range(many)]), there)

    def test_edges(self):
        self.exact((ending(PACK, 0, (), 9), dealt(PACK, 0, (), 9)), ((), ()))
        self.exact((ending(PACK, 3, heap(e=3), 9), dealt(PACK, 3, heap(e=3), 9)), ((), ((3, ()),)))
        self.exact(dealt(PACK, 4, heap(e=3, s=1), 9), ((3, ()), (1, ("go", "home"))))
        self.exact(ending(PACK, 10 ** 12, heap(s=10 ** 12), 9), (("go", 10 ** 12), ("home", 10 ** 12)))
        # Neighbouring rows of one step are one row, of two parts, too.
        plan = plan_of("f: s -> 2 a\ng: a -> b\nh: 2 b -> e")
        self.exact(ending(plan, 2, heap(a=1, b=3), 9), (("g", 1), ("h", 2)))
        self.exact(dealt(plan, 2, heap(a=1, b=3), 9), ((1, ("g", "h")), (1, ("h",))))
        ring = plan_of("f: s -> 2 a\ng: 2 a -> 2 b\nh: 2 b -> e\nj: a -> b")
        self.exact(ending(ring, 3, heap(a=3, b=1, s=1), 9),
                   (("j", 1), ("h", 1), ("g", 1), ("h", 1), ("f", 1), ("g", 1), ("h", 1)))

    def test_refusals_in_order(self):
        for text in STUCK + GROWING:
            for function in (ending, dealt):
                self.refused(Refused, {"word": "whole"}, function, plan_of(text), 1, heap(s=2), 2000)
            self.refused(Refused, {"word": "whole"}, step_share, plan_of(text), 2000)
        for function in (ending, dealt):
            self.refused(Refused, {"word": "whole"}, function, PACK, 2, heap(a=1), 2)
            self.refused(Refused, {"word": "belongs"}, function, PACK, 2, heap(a=1), 3)
            self.refused(Refused, {"word": "belongs"}, function, PACK, 0, heap(a=1), 3)
            self.refused(Refused, {"word": "belongs"}, function, PACK, 1, (), 3)
            self.refused(Refused, {"word": "belongs"}, function, HOME, 1, heap(a=2), 30)
        self.refused(Refused, {"word": "whole"}, step_share, PACK, 2)

    def test_refused_exactly_where_it_does_not_belong(self):
        rng = generator(153)
        counts = [0, 0]
        for _ in range(120):
            plan = whole_plan(rng)
            there = as_heap({place: rng.randint(1, 3) for place in rng.sample(plan.places, rng.randint(0, 2))})
            cases = rng.randint(0, 3)
            right = belongs_by_hand(plan, cases, there)
            counts[right] += 1
            if right:
                self.exact(single_steps(plan, there, ending(plan, cases, there, 2000)), ends(plan, cases))
            else:
                self.refused(Refused, {"word": "belongs"}, ending, plan, cases, there, 2000)
        self.assertGreater(min(counts), 10)


class Shares(Case):
    def test_by_hand(self):
        rng = generator(154)
        for at in range(80):
            plan = plan_of(WHOLE[at]) if at < len(WHOLE) else whole_plan(rng)
            shares = [Fraction(len(walk_by_hand(plan, live_of(plan), papers)[ends(plan, cases)]), cases)
                      for cases, papers in least_heaps(plan)]
            best = max(shares)
            self.exact(step_share(plan, 2000), (best.numerator, best.denominator))

    def test_known_ones(self):
        # Two cases at once in a step: two steps by two cases.
        self.exact(step_share(plan_of("f: 2 s -> 2 a\ng: 2 a -> 2 e\nh: s -> e"), 9), (1, 1))
        self.exact(step_share(plan_of("t: s -> e"), 9), (1, 1))
        self.exact(step_share(HOME, 9), (2, 1))

    def test_no_better_bound(self):
        rng = generator(155)
        for text in WHOLE:
            plan = plan_of(text)
            share = Fraction(*step_share(plan, 2000))
            reached = [Fraction(sum(many for _, many in ending(plan, cases, papers, 2000)), open_cases(plan, cases, papers))
                       for cases, papers in least_heaps(plan) if open_cases(plan, cases, papers)]
            self.exact(max(reached) == share, True)
            cases, there = from_parts(plan, tuple((at, rng.randint(1, 9)) for at in range(len(least_heaps(plan)))))
            run = ending(plan, cases, there, 2000)
            self.assertLessEqual(sum(many for _, many in run), share * open_cases(plan, cases, there))

    def test_greatest(self):
        for _ in range(10):
            run = ending(GREAT, 10 ** 12, heap(s=10 ** 12), 2003)
            self.exact(behind_rows(GREAT, heap(s=10 ** 12), run), heap(e=10 ** 12))


if __name__ == "__main__":
    unittest.main()
