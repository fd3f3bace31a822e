"""[44] and [45]: good numbers of cases."""

import unittest

from caseshome.errors import Refused
from caseshome.lattice import ends_order
from caseshome.numbers import all_good, bad_run, good, good_numbers
from caseshome.plans import Plan
from caseshome.sums import least_with
from tests.helpers import Case, generator, heap, plan_of, weighed_plan
from tests.search import GROWING, STUCK, WHOLE, end_by_hand, ends, first_lost, live_of, starts, walk_by_hand, whole_plan

PACK = Plan(("b", "e", "s"), (("end", (("b", 3),), (("e", 3),)), ("go", (("s", 1),), (("e", 1),)),
                              ("pack", (("s", 2),), (("b", 2),))), "s", "e")
# Good for even numbers alone, and for none but 0.
EVEN = plan_of("t: 2 s -> 2 e")
NEVER = plan_of("t: s -> a")


def bad_by_hand(plan, cases, most):
    """The first of the shortest runs to what cannot be ended, and the lot of it; None for none, "many" above most."""
    found = walk_by_hand(plan, live_of(plan), starts(plan, cases), most)
    if found is None:
        return "many"
    bad = []
    for papers, run in found.items():
        further = walk_by_hand(plan, live_of(plan), papers, most)
        if ends(plan, cases) not in further:
            bad.append((len(run), run, tuple(sorted(further))))
    return min(bad)[1:] if bad else None


def some_plan(rng):
    if rng.random() < 0.3:
        return whole_plan(rng)
    if rng.random() < 0.3:
        return plan_of(rng.choice(STUCK))
    return weighed_plan(rng, rng.randint(2, 4), rng.randint(1, 4), 2, 3)


class Good(Case):
    def test_examples(self):
        self.exact((good_numbers(PACK, 100, 6), bad_run(PACK, 2, 100), all_good(PACK, 1, 100)),
                   ((0, 1), (("pack",), ((("b", 2),),)), (1, (("b", 1),))))

    def test_by_hand(self):
        rng = generator(120)
        counts = {}
        for _ in range(250):
            plan, cases = some_plan(rng), rng.randint(0, 4)
            most = rng.choice((1, 3, 6, 60, 60))
            expected = bad_by_hand(plan, cases, most)
            if expected == "many":
                self.refused(Refused, {"word": "many"}, good, plan, cases, most)
                self.refused(Refused, {"word": "many"}, bad_run, plan, cases, most)
            else:
                self.exact(self.unchanged(good, plan, cases, most), expected is None)
                found = self.unchanged(bad_run, plan, cases, most)
                self.exact(found, expected)
                if found is not None:
                    self.assertIn(end_by_hand(plan, starts(plan, cases), found[0]), found[1])
            kind = expected if expected in (None, "many") else len(expected[0]) > 1
            counts[kind] = counts.get(kind, 0) + 1
        self.assertTrue(all(counts[kind] > 10 for kind in (None, "many", False)))
        self.assertGreater(counts[True], 0)

    def test_long_bad_runs(self):
        plan = plan_of("a: s -> b\nc: b -> d\nf: d -> e\ng: d -> h\nk: b -> l\nm: l -> b\no: 2 d -> 2 h")
        self.exact(bad_run(plan, 1, 99), (("a", "c", "g"), (heap(h=1),)))
        self.exact(bad_run(plan, 2, 99)[0], ("a", "c", "g"))
        self.exact(bad_run(plan, 2, 99), bad_by_hand(plan, 2, 99))

    def test_no_cases(self):
        for text in WHOLE + STUCK:
            self.exact((good(plan_of(text), 0, 1), bad_run(plan_of(text), 0, 1), good_numbers(plan_of(text), 1, 0)), (True, None, (0,)))

    def test_the_start_itself_may_be_bad(self):
        self.exact(bad_run(EVEN, 1, 9), ((), (heap(s=1),)))
        self.exact(bad_run(plan_of(""), 3, 1), ((), (heap(s=3),)))
        self.exact(bad_run(NEVER, 1, 2), ((), (heap(a=1), heap(s=1))))

    def test_no_weights_first(self):
        for text in GROWING:
            plan = plan_of(text)
            for function, rest in ((good, (0, 1)), (good, (9, 1)), (bad_run, (9, 1)), (good_numbers, (1, 9)), (all_good, (1, 1)),
                                   (all_good, (9, 4000))):
                self.refused(Refused, {"word": "weights"}, function, plan, *rest)

    def test_just_at_most(self):
        for plan in (PACK, EVEN, NEVER, plan_of(WHOLE[4])):
            for cases in (1, 2, 3):
                many = len(walk_by_hand(plan, live_of(plan), starts(plan, cases)))
                good(plan, cases, many)
                bad_run(plan, cases, many)
                if many > 1:
                    self.refused(Refused, {"word": "many"}, good, plan, cases, many - 1)
                    self.refused(Refused, {"word": "many"}, bad_run, plan, cases, many - 1)

    def test_dead_steps(self):
        plan = plan_of("t: s -> a\nu: a -> e\nz: y -> 2 y\nx: a, y -> 2 e")
        self.exact((good(plan, 2, 6), good_numbers(plan, 6, 2), all_good(plan, 2, 6)), (True, (0, 1, 2), True))

    def test_great_numbers(self):
        self.exact(good(plan_of(""), 10 ** 12, 1), False)
        self.refused(Refused, {"word": "many"}, good, EVEN, 10 ** 12, 4000)
        many = walk_by_hand(EVEN, live_of(EVEN), starts(EVEN, 60))
        for _ in range(10):
            self.exact((good(EVEN, 60, len(many)), good(EVEN, 59, 4000)), (True, False))


class Numbers(Case):
    def test_by_hand(self):
        rng = generator(121)
        counts = {}
        for _ in range(150):
            plan, top, most = some_plan(rng), rng.randint(0, 4), rng.choice((3, 8, 60, 60))
            if walk_by_hand(plan, live_of(plan), starts(plan, top), most) is None:
                self.refused(Refused, {"word": "many"}, good_numbers, plan, most, top)
                counts["many"] = counts.get("many", 0) + 1
                continue
            expected = tuple(cases for cases in range(top + 1) if bad_by_hand(plan, cases, most) is None)
            self.exact(self.unchanged(good_numbers, plan, most, top), expected)
            kind = "all" if len(expected) == top + 1 else "none" if expected == (0,) else "some"
            counts[kind] = counts.get(kind, 0) + 1
        self.assertTrue(all(counts[kind] > 5 for kind in ("many", "all", "none", "some")))

    def test_shapes(self):
        self.exact(good_numbers(EVEN, 99, 7), (0, 2, 4, 6))
        self.exact(good_numbers(NEVER, 99, 7), (0,))
        self.exact(good_numbers(plan_of("t: 3 s -> 3 e"), 99, 10), (0, 3, 6, 9))
        self.exact(good_numbers(plan_of("p: s -> 2 a\nq: 3 a -> e"), 300, 9), (0,))
        self.exact(good_numbers(plan_of("p: 3 s -> 2 a\nq: 2 a -> 3 e"), 300, 9), (0, 3, 6, 9))

    def test_differences_and_the_order_of_ends(self):
        rng = generator(122)
        for _ in range(60):
            plan = some_plan(rng)
            if walk_by_hand(plan, live_of(plan), starts(plan, 4), 200) is None:
                continue
            numbers = good_numbers(plan, 200, 4)
            for one in numbers:
                for other in numbers:
                    self.assertIn(abs(one - other), numbers)
                if one > 0:
                    self.exact(one % ends_order(plan), 0)

    def test_a_whole_plan_has_all(self):
        for text in WHOLE:
            self.exact(good_numbers(plan_of(text), 300, 4), (0, 1, 2, 3, 4))

    def test_greatest(self):
        many = len(walk_by_hand(EVEN, live_of(EVEN), starts(EVEN, 60)))
        for _ in range(6):
            self.exact(good_numbers(EVEN, many, 60), tuple(range(0, 61, 2)))
            self.refused(Refused, {"word": "many"}, good_numbers, EVEN, many - 1, 60)
        two = plan_of("t: s -> a\nu: a -> e")
        for _ in range(6):
            self.exact(good_numbers(two, 300, 23), tuple(range(24)))
            self.refused(Refused, {"word": "many"}, good_numbers, two, 300, 24)


class Multiples(Case):
    def test_by_hand(self):
        rng = generator(123)
        counts = {}
        for _ in range(200):
            plan, every, most = some_plan(rng), rng.randint(1, 3), rng.choice((4, 12, 80, 80))
            pairs = least_with(plan, every)
            expected = bad_by_hand(plan, every, most)
            if expected is not None:
                word = "many" if expected == "many" else "good"
                self.refused(Refused, {"word": word}, all_good, plan, every, most)
                counts[word] = counts.get(word, 0) + 1
                continue
            told = True
            for cases, papers in pairs:
                found = walk_by_hand(plan, live_of(plan), papers, most)
                if found is None or ends(plan, cases) not in found:
                    told = "many" if found is None else (cases, papers)
                    break
            if told == "many":
                self.refused(Refused, {"word": "many"}, all_good, plan, every, most)
                counts["later"] = counts.get("later", 0) + 1
            else:
                self.exact(self.unchanged(all_good, plan, every, most), told)
                counts[told is True] = counts.get(told is True, 0) + 1
        self.assertTrue(all(counts[kind] > 8 for kind in ("many", "good", True)))
        self.assertGreater(counts[False], 0)

    def test_every_of_whole_plans(self):
        for text in WHOLE[:9]:
            for every in (1, 2, 3):
                self.assertIs(all_good(plan_of(text), every, 4000), True)

    def test_shapes(self):
        self.assertIs(all_good(EVEN, 2, 99), True)
        self.assertIs(all_good(EVEN, 4, 99), True)
        self.refused(Refused, {"word": "good"}, all_good, EVEN, 3, 99)
        self.refused(Refused, {"word": "good"}, all_good, NEVER, 2, 99)
        self.refused(Refused, {"word": "good"}, all_good, PACK, 2, 99)
        self.refused(Refused, {"word": "many"}, all_good, NEVER, 2, 2)
        self.exact(first_lost(PACK, live_of(PACK), least_with(PACK, 1)), (1, heap(b=1)))

    def test_refused_at_a_pair(self):
        # One case comes to two heaps, and is good; (2, p y) comes to three, (2, y z) to four.
        lines = "go: s -> e\nx: 2 s -> y, z\nz: z -> p\nza: p -> q\nzb: q, y -> 2 e"
        plan = plan_of(lines)
        self.assertIs(all_good(plan, 1, 4), True)
        self.refused(Refused, {"word": "many"}, all_good, plan, 1, 3)
        self.refused(Refused, {"word": "many"}, all_good, plan, 1, 2)
        # (2, 2 c) comes ahead of both, and is lost; (2, 2 r) comes behind them.
        self.exact([all_good(plan_of(lines + "\nk: 2 s -> 2 c"), 1, most) for most in (2, 3, 4)], [(2, heap(c=2))] * 3)
        lost = plan_of(lines + "\nk: 2 s -> 2 r")
        self.refused(Refused, {"word": "many"}, all_good, lost, 1, 2)
        self.exact([all_good(lost, 1, most) for most in (3, 4)], [(2, heap(r=2))] * 2)
        self.exact(first_lost(lost, live_of(lost), least_with(lost, 1)), (2, heap(r=2)))

    def test_greatest(self):
        two = plan_of("t: s -> a\nu: a -> e")
        for _ in range(5):
            self.assertIs(all_good(two, 9, 4000), True)
        self.refused(Refused, {"word": "many"}, all_good, two, 9, 54)
        self.assertIs(all_good(two, 9, 55), True)


if __name__ == "__main__":
    unittest.main()
