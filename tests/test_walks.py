"""[33] to [36]: what a crew leads where."""

import unittest

from caseshome.errors import NoName, Refused
from caseshome.plans import Plan, names_of
from caseshome.plantext import read_plan
from caseshome.walks import Led, Lost, check_costs, check_led, cheapest, ends_of, first_run, led, reached
from tests.helpers import ODD, Case, generator, heap, nested, plan_of, random_heap, random_plan, weighed_plan
from tests.search import cheapest_by_hand, ends, end_by_hand, is_closed, walk_by_hand, whole_plan

PLAN = read_plan("start s\nend e\nstep f: s -> a, b\nstep g: a, b -> e\nstep h: 2 a -> 2 c\nstep k: b, c -> e")
GROWS = plan_of("t: s -> a\nu: a -> 2 a\nv: a -> e\nz: y -> 2 y\nx: y -> e")
RING = plan_of("a: s -> p\nb: p -> q\nc: q -> p\nd: q -> e")


def some_walk(rng):
    """A plan, a crew and a heap such that all that comes can be told, by hand, too."""
    while True:
        plan = weighed_plan(rng, rng.randint(2, 6), rng.randint(0, 6), 2, 3) if rng.random() < 0.4 else whole_plan(rng)
        names = names_of(plan)
        crew = names if rng.random() < 0.5 else tuple(sorted(rng.sample(names, rng.randint(0, len(names)))))
        papers = ((plan.start, rng.randint(1, 4)),) if rng.random() < 0.4 else random_heap(rng, plan.places, 4, 3)
        found = walk_by_hand(plan, crew, papers if rng.random() < 0.95 else (), 120)
        if found is not None:
            return plan, crew, list(found)[0], found


class Reached(Case):
    def test_examples(self):
        self.exact((len(reached(PLAN, ("f", "g"), (("s", 2),), 10)), led(PLAN, ("f", "g"), 2, (("s", 2),), 6).run),
                   (6, ("f", "f", "g", "g")))

    def test_by_hand(self):
        rng = generator(80)
        more = 0
        for _ in range(200):
            plan, crew, papers, found = some_walk(rng)
            self.exact(self.unchanged(reached, plan, crew, papers, len(found)), tuple(sorted(found)))
            self.exact(reached(plan, crew, papers, 4000), tuple(sorted(found)))
            if len(found) > 1:
                self.refused(Refused, {"word": "many"}, reached, plan, crew, papers, len(found) - 1)
                self.refused(Refused, {"word": "many"}, reached, plan, crew, papers, 1)
            more += len(found) > 8
        self.assertGreater(more, 20)

    def test_edges(self):
        for papers in ((), heap(s=1), heap(a=10 ** 12, c=3)):
            self.exact(reached(PLAN, (), papers, 1), (papers,))
        self.exact(reached(PLAN, ("f", "g", "h", "k"), (), 1), ((),))
        self.exact(reached(plan_of("c: a -> a, e\nd: a -> a"), ("d",), heap(a=1), 1), (heap(a=1),))
        self.exact(reached(plan_of("t: s -> e"), ("t",), heap(s=2), 3), (heap(e=1, s=1), heap(e=2), heap(s=2)))

    def test_a_step_finds_only_what_it_takes(self):
        plan = plan_of("t: 9 a, b -> c\nu: 8 a -> d")
        self.exact(reached(plan, ("t",), heap(a=9), 9), (heap(a=9),))
        self.exact(reached(plan, ("t",), heap(a=8, b=1), 9), (heap(a=8, b=1),))
        self.exact(reached(plan, ("t",), heap(a=9, b=1), 9), (heap(a=9, b=1), heap(c=1)))
        self.exact(reached(plan, ("t", "u"), heap(a=17, b=1), 9),
                   (heap(a=1, b=1, d=2), heap(a=8, c=1), heap(a=9, b=1, d=1), heap(a=17, b=1), heap(c=1, d=1)))

    def test_great_numbers(self):
        many = 10 ** 12
        moved = reached(plan_of("t: s -> a\nu: 9 a -> e"), ("u",), heap(a=9 * 5 + 8, s=many), 6)
        self.exact(moved, tuple(sorted(
            tuple(sorted([(place, number) for place, number in (("a", 8 + 9 * k), ("e", 5 - k), ("s", many)) if number]))
            for k in range(6))))
        self.refused(Refused, {"word": "many"}, reached, plan_of("t: s -> a"), ("t",), heap(s=many), 4000)

    def test_papers_that_grow_more(self):
        plan = plan_of("t: s -> 9 a", places=("b",))
        expected = tuple(sorted(tuple(sorted((place, number) for place, number in (("a", 9 * k), ("s", 100 - k)) if number))
                                for k in range(101)))
        self.exact(reached(plan, ("t",), heap(s=100), 101), expected)
        self.refused(Refused, {"word": "many"}, reached, plan, ("t",), heap(s=100), 100)
        self.exact(first_run(plan, ("t",), heap(s=100), heap(a=900), 101), ("t",) * 100)

    def test_refusals_in_order(self):
        for function, rest in ((reached, (heap(s=9), 1)), (first_run, (heap(s=9), heap(s=9), 1)), (led, (9, heap(s=9), 1)),
                               (cheapest, (9, heap(s=9), tuple((name, 1) for name in names_of(GROWS)), 1))):
            self.refused(NoName, {"name": "nn"}, function, GROWS, ("nn", "u"), *rest)
            self.refused(NoName, {"name": "nn"}, function, GROWS, ("nn", "oo", "u"), *rest)
            self.refused(Refused, {"word": "weights"}, function, GROWS, ("t", "u", "v"), *rest)
            self.refused(Refused, {"word": "weights"}, function, GROWS, ("u",), *rest)
            self.refused(Refused, {"word": "weights"}, function, GROWS, ("z",), *rest)
            self.refused(Refused, {"word": "many"}, function, GROWS, ("t", "v"), *rest)
        self.exact(len(reached(GROWS, ("t", "v"), heap(s=9), 55)), 55)
        self.exact(reached(GROWS, (), heap(s=9), 1), (heap(s=9),))

    def test_a_crew_that_raises_no_weight_of_its_own_may_walk(self):
        plan = plan_of("t: 2 s -> a\nu: a, s -> e")
        self.exact(reached(plan, ("t", "u"), heap(s=4), 9), (heap(a=1, s=2), heap(a=2), heap(e=1, s=1), heap(s=4)))

    def test_greatest(self):
        lines = [f"{one}{two}: {one} -> {two}" for one, two in ("sa", "ab", "bc", "cd", "df", "fg", "gh", "hk", "ae", "be",
                                                               "ce", "de", "fe", "ge")]
        plan = plan_of("\n".join(lines), places=("x", "y"))
        self.exact((len(plan.places), len(plan.steps)), (12, 14))
        crew = names_of(plan)
        # Ten places: four papers in any of them come to 13 over 4 heaps, six papers to 15 over 6.
        for _ in range(6):
            self.exact(len(reached(plan, crew, heap(s=4), 715)), 715)
            self.refused(Refused, {"word": "many"}, reached, plan, crew, heap(s=6), 4000)
        self.exact(len(reached(plan, crew, heap(s=5), 2002)), 2002)


class Runs(Case):
    def test_first_run_by_hand(self):
        rng = generator(81)
        long = 0
        for _ in range(150):
            plan, crew, papers, found = some_walk(rng)
            for goal in rng.sample(sorted(found), min(8, len(found))):
                run = self.unchanged(first_run, plan, crew, papers, goal, len(found))
                self.exact(run, found[goal])
                long += len(run) > 2
            if len(found) > 1:
                self.refused(Refused, {"word": "many"}, first_run, plan, crew, papers, papers, len(found) - 1)
            other = random_heap(rng, plan.places, 4, 3)
            if other not in found:
                self.exact(first_run(plan, crew, papers, other, len(found)), None)
        self.assertGreater(long, 60)

    def test_edges(self):
        self.exact(first_run(PLAN, (), (), (), 1), ())
        self.exact(first_run(PLAN, ("f",), heap(s=1), heap(s=1), 2), ())
        self.exact(first_run(PLAN, ("f",), heap(s=1), heap(a=1, b=1), 2), ("f",))
        self.exact(first_run(PLAN, ("f",), heap(s=1), (), 2), None)
        self.exact(first_run(PLAN, ("f",), heap(s=1), heap(a=10 ** 12), 2), None)
        self.exact(first_run(plan_of("t: s -> a, b"), ("t",), heap(s=1), heap(a=2 ** 40), 2), None)

    def test_no_other_heap_is_taken_for_the_goal(self):
        plan = plan_of("t: s -> a", places=("b", "c"))
        for power in range(1, 60):
            for place in plan.places:
                goal = ((place, 2 ** power),)
                self.exact(first_run(plan, ("t",), heap(s=2), goal, 3), () if goal == heap(s=2) else
                           ("t", "t") if goal == heap(a=2) else None)
                self.exact(first_run(plan, ("t",), heap(s=1), goal, 3), None)
                self.exact(first_run(plan, ("t",), heap(b=1, s=1), goal, 3), None)

    def test_the_first_of_the_shortest(self):
        plan = plan_of("a: s -> p\nb: s -> q\nc: q -> e\nd: p -> e\nf: s -> e\ng: p -> q")
        self.exact(first_run(plan, names_of(plan), heap(s=1), heap(e=1), 9), ("f",))
        self.exact(first_run(plan, ("a", "b", "c", "d"), heap(s=1), heap(e=1), 9), ("a", "d"))
        self.exact(first_run(plan, ("b", "c", "d"), heap(s=1), heap(e=1), 9), ("b", "c"))
        self.exact(first_run(plan, ("a", "c", "g"), heap(s=1), heap(e=1), 9), ("a", "g", "c"))
        self.exact(first_run(plan, ("a", "b"), heap(s=2), heap(p=1, q=1), 9), ("a", "b"))

    def test_led_by_hand(self):
        rng = generator(82)
        counts = [0, 0]
        for _ in range(200):
            plan, crew, papers, found = some_walk(rng)
            number = sum(many for _, many in papers)
            for cases in range(number + 1):
                told = self.unchanged(led, plan, crew, cases, papers, len(found))
                goal = ends(plan, cases)
                if goal in found:
                    self.exact((type(told), told.run), (Led, found[goal]))
                else:
                    self.exact((type(told), told.lot), (Lost, tuple(sorted(found))))
                self.exact(check_led(plan, crew, cases, papers, told), True)
                counts[goal in found] += 1
            if len(found) > 1:
                self.refused(Refused, {"word": "many"}, led, plan, crew, 1, papers, len(found) - 1)
        self.assertGreater(min(counts), 50)

    def test_led_edges(self):
        self.assertTrue(led(PLAN, (), 0, (), 1) == Led(()))
        self.assertTrue(led(PLAN, (), 3, heap(e=3), 1) == Led(()))
        self.assertTrue(led(PLAN, (), 2, heap(e=3), 1) == Lost((heap(e=3),)))
        self.assertTrue(led(PLAN, (), 0, heap(s=1), 1) == Lost((heap(s=1),)))
        self.assertTrue(led(PLAN, (), 10 ** 12, heap(e=10 ** 12), 1) == Led(()))
        self.assertTrue(led(PLAN, ("f", "g"), 2, heap(s=1, e=1), 3) == Led(("f", "g")))

    def test_ends_of(self):
        self.exact((ends_of(PLAN, 0), ends_of(PLAN, 1), ends_of(PLAN, 10 ** 12)), ((), (("e", 1),), (("e", 10 ** 12),)))
        self.exact(ends_of(Plan(("a", "b"), (), "b", "a"), 3), (("a", 3),))

    def test_equal(self):
        for one, other in ((Led, Lost), (Lost, Led)):
            self.assertTrue(one(("f",)) == one(("f",)))
            self.assertFalse(one(("f",)) == one(("g",)))
            self.assertFalse(one(("f",)) == other(("f",)))
            self.assertFalse(one(("f",)) == ("f",))
            self.assertFalse(one(("f",)) != one(("f",)))
            self.assertTrue(one(None) == one(None))
            self.assertIn("__eq__", vars(one))
        kept = ["f"]
        self.assertIs(Led(kept).run, kept)
        self.assertIs(Lost(lot=kept).lot, kept)
        self.assertIs(Led(run=kept).run, kept)


class Checked(Case):
    def test_examples(self):
        many = 10 ** 6
        start = (("s", many),)
        self.exact((check_led(PLAN, ("f", "g"), many, start, Led((("f", many), ("g", many)))),
                    check_led(PLAN, ("f", "g"), many, start, Led((("g", many), ("f", many))))), (True, False))

    def test_runs(self):
        two, crew = heap(s=2), ("f", "g")
        for run in (("f", "f", "g", "g"), ("f", "g", "f", "g"), (("f", 2), ("g", 2)), (("f", 1), ("f", 1), ("g", 1), ("g", 1)),
                    (("f", 1), ("g", 1), ("f", 1), ("g", 1))):
            self.exact(check_led(PLAN, crew, 2, two, Led(run)), True)
        for run in (("f", "f", "g"), ("f", "f", "g", "g", "g"), ("f", "f", "g", "h"), ("g", "f", "f", "g"), ("f", "f", "k", "g"),
                    (("f", 2), ("g", 1)), (("f", 2), ("g", 3)), (("g", 2), ("f", 2)), (("f", 2), ("g", True), ("g", 1)),
                    (("f", 2), ("g", 2), ("f", 0)), (("f", 3), ("g", 2), ("f", -1)), ("f", ("f", 1), ("g", 2)),
                    (("f", 2), "g", "g"), ["f", "f", "g", "g"], [("f", 2), ("g", 2)], (["f", 2], ["g", 2]), (("f", 2, 1), ("g", 2)),
                    (("f",), ("g",)), (("f", 2), ("g", "2")), "ffgg", None, 4, (), ("f", "f", "g", "g", "nn"),
                    (("f", 2), ("g", 2), ("nn", 1)), ("f", "f", "g", "g", None), (("h", 1), ("f", 2), ("g", 2))):
            self.exact(check_led(PLAN, crew, 2, two, Led(run)), False)
        self.exact(check_led(PLAN, crew, 1, two, Led(("f", "f", "g", "g"))), False)
        self.exact(check_led(PLAN, crew, 2, heap(s=3), Led(("f", "f", "g", "g"))), False)
        self.exact(check_led(PLAN, ("f",), 2, two, Led(("f", "f", "g", "g"))), False)
        self.exact(check_led(PLAN, (), 0, (), Led(())), True)
        self.exact(check_led(PLAN, (), 2, heap(e=2), Led(())), True)
        self.exact(check_led(PLAN, ("h", "k"), 2, heap(a=2, b=2), Led((("h", 1), ("k", 2)))), True)
        self.exact(check_led(PLAN, ("h", "k"), 2, heap(a=2, b=2), Led((("k", 1), ("h", 1), ("k", 1)))), False)

    def test_great_runs(self):
        many = 10 ** 12
        run = tuple((("f", "g")[k % 2], many // 100) for k in range(200))
        for _ in range(20):
            self.exact(check_led(PLAN, ("f", "g"), many, heap(s=many), Led(run)), True)
            self.exact(check_led(PLAN, ("f", "g"), many, heap(s=many), Led(run[1:] + run[:1])), False)
        figures = 10 ** 3999
        self.exact(check_led(PLAN, ("f", "g"), many, heap(s=many), Led((("f", figures), ("g", figures)))), False)
        self.exact(check_led(PLAN, ("f", "g"), 400, heap(s=400), Led(("f", "g") * 400)), True)

    def test_lots(self):
        crew, one = ("f", "h"), heap(s=2)
        lot = (heap(a=1, b=1, s=1), heap(a=2, b=2), heap(b=2, c=2), heap(s=2))
        self.exact(led(PLAN, crew, 2, one, 9).lot, lot)
        self.exact(check_led(PLAN, crew, 2, one, Lost(lot)), True)
        for at in range(len(lot)):
            self.exact(check_led(PLAN, crew, 2, one, Lost(lot[:at] + lot[at + 1:])), False)
            self.exact(check_led(PLAN, crew, 2, one, Lost(lot[:at] + (list(lot[at]),) + lot[at + 1:])), False)
            self.exact(check_led(PLAN, crew, 2, one, Lost(lot[:at + 1] + lot[at:])), False)
        for more, holds in ((heap(e=7), True), (heap(c=10 ** 3999), True), ((), True), (heap(e=2), False), (heap(s=1), False),
                            (heap(a=2), False), (heap(b=7, c=1), True), ((("x", 1),), False)):
            self.exact(check_led(PLAN, crew, 2, one, Lost(tuple(sorted(lot + (more,))))), holds)
        for value in (lot[::-1], list(lot), (), None, 1, lot[0], (lot,), lot[:3] + ((("s", True), ),), lot[:3] + ("s",),
                      lot[1:2] + lot[:1] + lot[2:], lot + (None,), lot + ((("s", 0),),), lot + ((("s", 3), ("a", 1)),)):
            self.exact(check_led(PLAN, crew, 2, one, Lost(value)), False)
        self.exact(check_led(PLAN, (), 2, one, Lost((one,))), True)
        self.exact(check_led(PLAN, (), 2, one, Lost((heap(a=1),))), False)
        self.exact(check_led(PLAN, (), 0, (), Lost(((),))), False)
        self.exact(check_led(PLAN, crew + ("k",), 2, one, Lost(lot)), False)

    def test_lots_of_all_numbers(self):
        plan = plan_of("t: 9 a -> 9 b\nu: b -> c")
        for many in list(range(1, 140)) + [2 ** power + more for power in range(7, 50) for more in (-9, -1, 0, 1, 8)]:
            self.exact(check_led(plan, ("t",), 1, heap(a=many), Lost((heap(a=many),))), many < 9)
            self.exact(check_led(plan, ("u",), 1, heap(b=many), Lost((heap(b=many),))), False)
            moved = heap(b=9) if many == 9 else heap(a=many - 9, b=9)
            if many >= 9:
                self.exact(check_led(plan, ("t",), 1, heap(a=many), Lost(tuple(sorted((heap(a=many), moved))))), many < 18)

    def test_lots_by_chance(self):
        rng = generator(83)
        counts = [0, 0]
        for _ in range(150):
            plan, crew, papers, found = some_walk(rng)
            lot = tuple(sorted(found))
            cases = rng.randint(0, 4)
            if rng.random() < 0.5 and lot:
                at = rng.randrange(len(lot))
                lot = lot[:at] + lot[at + 1:]
            elif rng.random() < 0.5:
                lot = tuple(sorted(set(lot + (random_heap(rng, plan.places, 3, 2),))))
            expected = papers in lot and ends(plan, cases) not in lot and is_closed(plan, crew, lot)
            self.exact(self.unchanged(check_led, plan, crew, cases, papers, Lost(lot)), expected)
            counts[expected] += 1
        self.assertGreater(min(counts), 30)

    def test_runs_by_chance(self):
        rng = generator(84)
        counts = [0, 0]
        for _ in range(400):
            plan = random_plan(rng, 3, 3, 1, 2)
            crew = names_of(plan)
            run = tuple(rng.choice(crew) for _ in range(rng.randint(0, 4)))
            papers = random_heap(rng, plan.places, 2, 3)
            behind = end_by_hand(plan, papers, run)
            cases = behind[0][1] if behind and len(behind) == 1 and behind[0][0] == plan.end else rng.randint(0, 3)
            expected = behind == ends(plan, cases)
            self.exact(check_led(plan, crew, cases, papers, Led(run)), expected)
            counts[expected] += 1
        self.assertGreater(min(counts), 10)

    def test_crews_without_weights(self):
        self.exact(check_led(GROWS, ("t", "u", "v"), 3, heap(s=1), Led(("t", "u", "u", "v", "v", "v"))), True)
        self.exact(check_led(GROWS, ("t", "u", "v", "z"), 1, heap(s=1), Lost((heap(s=1),))), False)
        self.exact(check_led(GROWS, ("u", "v", "z"), 1, heap(s=1), Lost((heap(s=1),))), True)

    def test_no_step(self):
        self.refused(NoName, {"name": "nn"}, check_led, PLAN, ("f", "nn"), 1, heap(s=1), None)
        self.refused(NoName, {"name": "nn"}, check_led, PLAN, ("nn",), 1, heap(s=1), Led(("f", "g")))

    def test_any_values(self):
        for value in ODD + (nested(80), Led(nested(79)), Lost(nested(79)), Led(Led(())), Lost(Lost(())), Led(PLAN), Lost((PLAN,))):
            self.exact(check_led(PLAN, ("f", "g"), 1, heap(s=1), value), False)
        for value in ODD:
            for kind in (Led, Lost):
                self.exact(check_led(PLAN, ("f", "g"), 1, heap(s=1), kind(value)), False)
                self.exact(check_led(PLAN, ("f", "g"), 1, heap(s=1), kind((value,))), False)
                self.exact(check_led(PLAN, ("f", "g"), 1, heap(s=1), kind((("s", value),))), False)


class Cheapest(Case):
    def test_examples(self):
        costs = (("f", 1), ("g", 5), ("h", 1), ("k", 2))
        self.exact(cheapest(PLAN, ("g", "h", "k"), 2, (("a", 2), ("b", 2)), costs, 20), (5, ("h", "k", "k")))

    def test_by_hand(self):
        rng = generator(85)
        counts = [0, 0]
        for _ in range(250):
            plan, crew, papers, found = some_walk(rng)
            if len(found) > 60:
                continue
            costs = tuple((name, rng.choice((0, 0, 1, 2, 3))) for name in names_of(plan))
            ended = [cases for cases in range(9) if ends(plan, cases) in found]
            cases = rng.choice(ended) if ended and rng.random() < 0.8 else rng.randint(0, 4)
            told = self.unchanged(cheapest, plan, crew, cases, papers, costs, len(found))
            expected = cheapest_by_hand(plan, crew, papers, ends(plan, cases), costs)
            self.exact(told, expected)
            counts[expected is not None and len(expected[1]) > 1] += 1
            if len(found) > 1:
                self.refused(Refused, {"word": "many"}, cheapest, plan, crew, cases, papers, costs, len(found) - 1)
        self.assertGreater(min(counts), 20)

    def test_the_longer_one_may_be_cheaper(self):
        plan = plan_of("a: s -> p\nb: p -> e\nc: s -> e\nd: s -> q\nf: q -> e")
        crew = names_of(plan)
        for numbers, expected in (((1, 1, 3, 1, 1), (2, ("a", "b"))), ((1, 1, 2, 1, 1), (2, ("c",))), ((2, 1, 4, 1, 1), (2, ("d", "f"))),
                                  ((0, 0, 0, 0, 0), (0, ("c",))), ((0, 1, 1, 0, 0), (0, ("d", "f"))), ((1, 0, 9, 0, 1), (1, ("a", "b")))):
            self.exact(cheapest(plan, crew, 1, heap(s=1), tuple(zip(crew, numbers)), 5), expected)

    def test_ways_that_do_not_come_home(self):
        plan = plan_of("a: s -> p\nb: s -> e\nc: p -> q")
        self.exact(cheapest(plan, ("a", "b", "c"), 2, heap(s=2), (("a", 0), ("b", 5), ("c", 0)), 20), (10, ("b", "b")))

    def test_rings_that_cost_nothing(self):
        costs = (("a", 0), ("b", 0), ("c", 0), ("d", 7))
        self.exact(cheapest(RING, ("a", "b", "c", "d"), 2, heap(s=2), costs, 20), (14, ("a", "a", "b", "b", "d", "d")))
        self.exact(cheapest(RING, ("a", "b", "c"), 2, heap(s=2), costs, 20), None)

    def test_edges(self):
        self.exact(cheapest(PLAN, (), 0, (), tuple((name, 9) for name in "fghk"), 1), (0, ()))
        self.exact(cheapest(PLAN, (), 2, heap(e=2), tuple((name, 9) for name in "fghk"), 1), (0, ()))
        self.exact(cheapest(PLAN, (), 1, heap(s=1), tuple((name, 9) for name in "fghk"), 1), None)
        self.exact(cheapest(plan_of(""), (), 0, (), (), 1), (0, ()))

    def test_check_costs(self):
        right = (("f", 0), ("g", 5), ("h", 10 ** 30), ("k", 2))
        self.exact(check_costs(PLAN, right), True)
        self.exact(check_costs(plan_of(""), ()), True)
        for at in range(4):
            self.exact(check_costs(PLAN, right[:at] + right[at + 1:]), False)
            self.exact(check_costs(PLAN, right[:at + 1] + right[at:]), False)
            for wrong in (("f" * (at + 2), 1), (right[at][0], -1), (right[at][0], True), (right[at][0], None), (right[at][0],),
                          (right[at][0], 1, 1), list(right[at]), right[at][0], None, (right[at][0], "1"), (right[at][0], (1, 1))):
                self.exact(check_costs(PLAN, right[:at] + (wrong,) + right[at + 1:]), False)
        for value in ODD + (list(right), right[::-1], right + (("z", 1),), nested(80), right[:1] * 4):
            self.exact(check_costs(PLAN, value), False)
        self.exact(check_costs(plan_of(""), []), False)
        self.exact(check_costs(plan_of(""), (("f", 1),)), False)


if __name__ == "__main__":
    unittest.main()
