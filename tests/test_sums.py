"""[31], [32] and [28]: sums of least heaps."""

import itertools
import unittest

from caseshome.errors import Refused
from caseshome.lists import least_heaps
from caseshome.plans import Plan
from caseshome.sums import from_parts, heaps_of, least_with, open_cases, parts
from tests.byhand import is_sum_by_hand
from tests.helpers import Case, generator, heap, plan_of, weighed_plan
from tests.search import GROWING, STUCK, WHOLE, form_of, joined_by_hand, whole_plan, within_by_hand

PLAN = Plan(("a", "e", "s"), (("fork", (("s", 1),), (("a", 2),)), ("join", (("a", 2),), (("e", 1),))), "s", "e")
SHAPES = [plan_of(text) for text in WHOLE + STUCK] + [plan_of("t: s -> a\nz: y -> 2 y\nu: a -> e", places=("x",))]


def sum_of_parts(plan, pairs):
    least = least_heaps(plan)
    return (sum(least[at][0] * many for at, many in pairs),
            joined_by_hand([least[at][1] for at, many in pairs for _ in range(many)]))


def heaps_by_hand(plan, cases, bound):
    """All heaps with no more than so many papers in a place that belong with a number of cases, by trying all."""
    form, found = form_of(plan), []
    for row in itertools.product(range(bound + 1), repeat=len(plan.places)):
        if is_sum_by_hand(form, row + (cases,)):
            found.append(tuple((place, number) for place, number in zip(plan.places, row) if number))
    return tuple(sorted(found))


def pairs_by_hand(plan, every, bound):
    """The least of all pairs whose cases are a multiple and whose heaps are not above a bound, by trying all."""
    form, pairs = form_of(plan), []
    for row in itertools.product(range(bound + 1), repeat=len(plan.places)):
        for cases in range(every, bound * len(row) + 1, every):
            if is_sum_by_hand(form, row + (cases,)):
                pairs.append((cases, row))
    least = [pair for pair in pairs
             if not any(other != pair and all(one <= two for one, two in zip(other[1], pair[1])) for other in pairs)]
    return tuple(sorted((cases, tuple((place, number) for place, number in zip(plan.places, row) if number))
                        for cases, row in least))


class Parts(Case):
    def test_examples(self):
        self.exact((parts(PLAN, 5, (("a", 6), ("s", 2))), from_parts(PLAN, ((1, 4), (2, 1))),
                    open_cases(PLAN, 5, (("e", 4), ("s", 1)))),
                   (((0, 3), (2, 2)), (5, (("e", 4), ("s", 1))), 1))

    def test_nothing(self):
        for plan in SHAPES:
            self.exact(parts(plan, 0, ()), ())
            self.exact(from_parts(plan, ()), (0, ()))

    def test_each_least_heap_is_itself(self):
        for plan in SHAPES:
            for at, (cases, papers) in enumerate(least_heaps(plan)):
                self.exact(parts(plan, cases, papers), ((at, 1),))
                self.exact(parts(plan, cases * 7, tuple((place, 7 * number) for place, number in papers))[0][0] <= at, True)
                self.exact(from_parts(plan, ((at, 1),)), (cases, papers))

    def test_the_first_as_often_as_it_lies_within(self):
        rng = generator(70)
        for _ in range(200):
            plan = rng.choice(SHAPES) if rng.random() < 0.5 else whole_plan(rng)
            least = least_heaps(plan)
            chosen = sorted((at, rng.randint(1, 3)) for at in rng.sample(range(len(least)), rng.randint(1, len(least))))
            cases, papers = sum_of_parts(plan, chosen)
            found = self.unchanged(parts, plan, cases, papers)
            self.tuples_within(found)
            left, expected = papers, []
            for at, (_, one) in enumerate(least):
                many = 0
                while within_by_hand(one, left):
                    there = dict(left)
                    for place, number in one:
                        there[place] -= number
                    left = tuple(sorted((place, number) for place, number in there.items() if number))
                    many += 1
                if many:
                    expected.append((at, many))
            self.exact(left, ())
            self.exact(found, tuple(expected))
            self.exact(sum_of_parts(plan, found), (cases, papers))
            self.exact(self.unchanged(from_parts, plan, found), (cases, papers))
            self.exact(from_parts(plan, tuple(chosen)), (cases, papers))

    def test_great_numbers(self):
        many = 10 ** 12
        self.exact(parts(PLAN, 3 * many, (("a", 2 * many), ("e", many), ("s", many))), ((0, many), (1, many), (2, many)))
        self.exact(from_parts(PLAN, ((0, many), (2, many))), (2 * many, (("a", 2 * many), ("s", many))))
        plan = plan_of("t: 9 s -> a\nu: 9 a -> b\nv: 9 b -> c")
        self.exact(parts(plan, 729 * many + 81, heap(c=many, b=1)), tuple(sorted(
            (at, many if papers == heap(c=1) else 1) for at, (_, papers) in enumerate(least_heaps(plan))
            if papers in (heap(c=1), heap(b=1)))))

    def test_pairs_of_one_number(self):
        self.exact(from_parts(PLAN, ((0, 1), (0, 3), (1, 2))), (6, (("a", 8), ("e", 2))))

    def test_what_does_not_belong(self):
        for cases, papers in ((0, heap(a=2)), (1, ()), (1, heap(a=1)), (2, heap(a=2)), (1, heap(a=4)), (3, heap(e=1, s=1))):
            self.refused(Refused, {"word": "belongs"}, parts, PLAN, cases, papers)
        dead = plan_of("t: s -> e\nz: y -> e")
        self.refused(Refused, {"word": "belongs"}, parts, dead, 1, heap(y=1))

    def test_no_weights_first(self):
        for text in GROWING:
            plan = plan_of(text)
            for cases, papers in ((0, ()), (1, heap(s=1)), (1, ()), (7, heap(s=1))):
                self.refused(Refused, {"word": "weights"}, parts, plan, cases, papers)
            self.refused(Refused, {"word": "weights"}, from_parts, plan, ())
            self.refused(Refused, {"word": "weights"}, heaps_of, plan, 40, 1)
            self.refused(Refused, {"word": "weights"}, heaps_of, plan, 0, 1)
            self.refused(Refused, {"word": "weights"}, least_with, plan, 2)

    def test_open_cases_of_any_plan(self):
        for text in GROWING:
            self.exact(open_cases(plan_of(text), 3, heap(s=7, e=1)), 2)
        self.exact(open_cases(PLAN, 0, ()), 0)
        self.exact(open_cases(PLAN, 2, heap(e=10 ** 12)), 2 - 10 ** 12)
        self.exact(open_cases(PLAN, 4, heap(a=9)), 4)
        self.exact(open_cases(plan_of("", "e", "s"), 4, heap(s=1, e=2)), 3)


class Heaps(Case):
    def test_examples(self):
        self.exact((heaps_of(PLAN, 0, 1), heaps_of(PLAN, 2, 6)),
                   (((),), ((("a", 2), ("e", 1)), (("a", 2), ("s", 1)), (("a", 4),), (("e", 1), ("s", 1)), (("e", 2),),
                            (("s", 2),))))

    def test_by_hand(self):
        rng = generator(71)
        many = 0
        for _ in range(60):
            plan = weighed_plan(rng, rng.randint(2, 4), rng.randint(0, 3), 2, 2)
            for cases in range(4):
                found = self.unchanged(heaps_of, plan, cases, 4000)
                self.tuples_within(found)
                self.exact(tuple(sorted(found)), found)
                small = tuple(papers for papers in found if max([number for _, number in papers], default=0) <= 4)
                self.exact(small, heaps_by_hand(plan, cases, 4))
                many += len(small) > 3
        self.assertGreater(many, 20)

    def test_refused_just_above_most(self):
        for plan in SHAPES:
            for cases in (0, 1, 2, 3, 5):
                found = heaps_of(plan, cases, 4000)
                self.exact(heaps_of(plan, cases, len(found)), found)
                if len(found) > 1:
                    self.refused(Refused, {"word": "many"}, heaps_of, plan, cases, len(found) - 1)
                    self.refused(Refused, {"word": "many"}, heaps_of, plan, cases, 1)

    def test_no_case_is_never_refused(self):
        for plan in SHAPES:
            self.exact(heaps_of(plan, 0, 1), ((),))

    def test_more_cases_than_least_heaps_tell(self):
        plan = plan_of("t: 3 s -> 2 a\nu: 2 a -> 3 e")
        self.exact(heaps_of(plan, 3, 10), (heap(a=2), heap(e=3), heap(s=3)))
        self.exact(heaps_of(plan, 4, 10), (heap(a=2, s=1), heap(e=3, s=1), heap(s=4)))
        self.exact(heaps_of(plan_of(""), 40, 1), (heap(s=40),))

    def test_greatest(self):
        self.exact(len(heaps_of(PLAN, 40, 4000)), 41 * 42 // 2)
        self.exact(len(heaps_of(plan_of("t: s -> e"), 40, 4000)), 41)
        dice = plan_of("in: s -> 9 a\nout: 9 a -> e\nturn: a -> b\nback: b -> a\npack: 3 a -> c\nlose: c -> 3 b")
        line = plan_of("f: s -> 9 a\nh: a -> b")
        for _ in range(20):
            self.refused(Refused, {"word": "many"}, heaps_of, dice, 40, 4000)
            self.exact(len(heaps_of(line, 29, 4000)), sum(9 * many + 1 for many in range(30)))
            self.refused(Refused, {"word": "many"}, heaps_of, line, 30, 4000)


    def test_many_papers(self):
        plan = plan_of("f: s -> 9 a\ng: 9 a -> e", places=("b",))
        for cases in (1, 2, 5, 20):
            self.exact(heaps_of(plan, cases, 4000), tuple(sorted(
                tuple(sorted((place, number) for place, number in (("a", 9 * one), ("e", two), ("s", cases - one - two)) if number))
                for one in range(cases + 1) for two in range(cases + 1 - one))))
        great = plan_of("f: s -> 9 a\ng: a -> 9 b\nh: b -> 9 c", places=("aa", "bb"))
        self.exact(heaps_of(great, 1, 4000)[:3], (heap(a=1, b=1, c=639), heap(a=1, b=2, c=630), heap(a=1, b=3, c=621)))


class Multiples(Case):
    def test_examples(self):
        self.exact((least_with(PLAN, 1), least_with(PLAN, 2)[:3]),
                   (((1, (("a", 2),)), (1, (("e", 1),)), (1, (("s", 1),))),
                    ((2, (("a", 2), ("e", 1))), (2, (("a", 2), ("s", 1))), (2, (("a", 4),)))))

    def test_one_is_the_least_heaps(self):
        rng = generator(72)
        for plan in SHAPES + [whole_plan(rng) for _ in range(30)]:
            self.exact(least_with(plan, 1), least_heaps(plan))

    def test_by_hand(self):
        rng = generator(73)
        many = 0
        for _ in range(40):
            plan = weighed_plan(rng, rng.randint(2, 4), rng.randint(0, 3), 2, 2)
            for every in (1, 2, 3):
                found = self.unchanged(least_with, plan, every)
                self.tuples_within(found)
                small = tuple(pair for pair in found if max(number for _, number in pair[1]) <= 4)
                self.exact(small, pairs_by_hand(plan, every, 4))
                many += len(small) > 3
        self.assertGreater(many, 10)

    def test_each_is_least_and_each_pair_is_a_sum(self):
        rng = generator(74)
        for _ in range(40):
            plan, every = rng.choice(SHAPES), rng.randint(2, 9)
            found = least_with(plan, every)
            if len(found) > 120:
                continue
            form = form_of(plan)
            for cases, papers in found:
                self.exact(cases % every, 0)
                self.assertTrue(is_sum_by_hand(form, tuple(dict(papers).get(place, 0) for place in plan.places) + (cases,)))
                self.exact([other for _, other in found if within_by_hand(other, papers)], [papers])
            for _ in range(10):
                chosen = [rng.choice(least_heaps(plan)) for _ in range(every)]
                cases, papers = sum(one for one, _ in chosen), joined_by_hand([one for _, one in chosen])
                if cases % every == 0:
                    self.assertTrue(any(within_by_hand(other, papers) for _, other in found))

    def test_many_papers(self):
        plan = plan_of("f: s -> 9 a\ng: 9 a -> e", places=("b",))
        for every in (2, 3, 7):
            self.exact(least_with(plan, every), tuple(sorted(
                (every, tuple(sorted((place, number) for place, number in (("a", 9 * one), ("e", two), ("s", every - one - two)) if number)))
                for one in range(every + 1) for two in range(every + 1 - one))))

    def test_cases_that_go_together(self):
        plan = plan_of("t: 2 s -> 3 a\nu: 3 a -> 2 e")
        self.exact(least_with(plan, 2), ((2, heap(a=3)), (2, heap(e=2)), (2, heap(s=2))))
        self.exact(least_with(plan, 3), ((3, heap(a=3, s=1)), (3, heap(e=2, s=1)), (3, heap(s=3)), (6, heap(a=3, e=4)),
                                         (6, heap(a=6, e=2)), (6, heap(a=9)), (6, heap(e=6))))
        self.exact(least_with(plan_of(""), 9), ((9, heap(s=9)),))

    def test_greatest(self):
        for _ in range(20):
            self.exact(len(least_with(PLAN, 9)), 55)
            self.exact(len(least_with(plan_of("t: s -> a\nu: 9 a -> 9 e"), 9)) > 9, True)


if __name__ == "__main__":
    unittest.main()
