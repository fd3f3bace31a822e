"""[10], [11] and [12]: runs."""

import math
import unittest

from caseshome.errors import InvalidRun, NoName, Refused
from caseshome.plans import Plan, names_of
from caseshome.plantext import read_plan
from caseshome.runs import (alike, behind_step, can_go_first, can_go_last, first_stop, folded, free, layers, many_orders,
                            most_times, need_run, possible, run_end, run_sum, steps_in, sum_change)
from tests.helpers import (ODD, Case, as_heap, change_by_hand, generator, great_plan, heap, nested, plan_of, random_heap,
                           random_plan, step_by_hand, triple_of)

MANY = 10 ** 12
PLAN = read_plan("start a\nend e\nstep m: 2 a -> b, 3 c\nstep n: b, c -> e\nstep o: c -> c, e")
FORK = read_plan("start s\nend e\nstep f: s -> a, b\nstep g: a -> c\nstep h: b -> d\nstep j: c, d -> e")


def random_run(rng, plan, rows=4, most=4):
    names = names_of(plan)
    return tuple((rng.choice(names), rng.randint(1, most)) for _ in range(rng.randint(0, rows)))


def walked(plan, start, run):
    """By single steps: the first stop (None for none) and the dict of papers there."""
    papers = dict(start)
    for at, (name, number) in enumerate(run):
        for k in range(number):
            behind = step_by_hand(papers, triple_of(plan, name))
            if behind is None:
                return (at, k), papers
            papers = behind
    return None, papers


class Judged(Case):
    def wrong(self, value, at, plan=PLAN):
        self.refused(InvalidRun, {"at": at}, need_run, plan, value)
        self.refused(InvalidRun, {"at": at}, need_run, value=value, plan=plan)

    def test_runs(self):
        for run in ((), (("m", 1),), (("m", 1), ("m", 1)), (("o", MANY), ("m", 10 ** 3999), ("n", 2)), (("m", 1),) * 200):
            self.assertIsNone(need_run(PLAN, run))
        self.assertIsNone(need_run(Plan(("a", "b"), (), "a", "b"), ()))

    def test_no_tuple(self):
        for value in (None, True, 1, "", "m", [], [("m", 1)], PLAN):
            self.wrong(value, -1)

    def test_no_row(self):
        for row in (None, True, 1, "m", "mn", (), ("m",), ("m", 1, 1), ["m", 1], (("m", 1),), (1, "m"), ("a", 1), ("", 1),
                    ("M", 1), ("mm", 1), (None, 1), (("m",), 1), (["m"], 1), (True, 1), (PLAN, 1), ("m", 0), ("m", -1),
                    ("m", -MANY), ("m", True), ("m", None), ("m", "1"), ("m", (1,)), ("m", PLAN)):
            self.wrong((row,), 0)
            self.wrong((("m", 1), row), 1)
            self.wrong((("m", 1), ("n", 1), row, ("m", 1), None), 2)
        self.wrong((("m", 1),), 0, Plan(("a", "b"), (), "a", "b"))

    def test_any_values(self):
        for value in ODD + (nested(80), (nested(79),)):
            try:
                self.assertIsNone(need_run(PLAN, value))
                self.exact(value, ())
            except InvalidRun as error:
                self.exact(error.at, 0 if isinstance(value, tuple) else -1)


class Walks(Case):
    def test_examples(self):
        self.exact(run_end(PLAN, (("a", 5),), (("m", 2), ("n", 1))), (("a", 1), ("b", 1), ("c", 5), ("e", 1)))
        self.exact((first_stop(PLAN, (("a", 5),), (("m", 3),)), most_times(PLAN, (("c", 1),), "o"),
                    most_times(PLAN, (), "o")), ((0, 2), None, 0))

    def test_empty(self):
        self.exact((first_stop(PLAN, (), ()), run_end(PLAN, (), ())), (None, ()))
        self.exact((first_stop(PLAN, (), (("m", 1),)), run_end(PLAN, (("e", 2),), ())), ((0, 0), (("e", 2),)))
        self.refused(Refused, {"word": "papers"}, run_end, PLAN, (), (("m", 1),))
        self.exact((run_sum(()), sum_change(PLAN, ()), steps_in(()), folded(()), possible(PLAN, ())), ((), (), 0, (), ()))

    def test_stops(self):
        start = (("a", 4),)
        self.exact(first_stop(PLAN, start, (("m", 2), ("n", 3))), (1, 2))
        self.exact(first_stop(PLAN, start, (("m", 2), ("n", 2))), None)
        self.exact(first_stop(PLAN, start, (("m", 1), ("n", 1), ("n", 1), ("m", 5))), (2, 0))
        self.exact(first_stop(PLAN, start, (("n", 1), ("m", 9))), (0, 0))
        self.refused(Refused, {"word": "papers"}, run_end, PLAN, start, (("m", 2), ("n", 3)))

    def test_first_and_last_time(self):
        plan = plan_of("t: 3 a -> 2 a, e\nu: 3 s -> 5 a\nv: 2 a, b -> 2 a, 2 b")
        self.exact([most_times(plan, heap(a=k), "t") for k in range(6)], [0, 0, 0, 1, 2, 3])
        self.exact(first_stop(plan, heap(a=5), (("t", 4),)), (0, 3))
        self.exact(run_end(plan, heap(a=5), (("t", 3),)), heap(a=2, e=3))
        self.exact((most_times(plan, heap(a=2, b=1), "v"), most_times(plan, heap(a=1, b=5), "v")), (None, 0))

    def test_great_numbers(self):
        self.exact(run_end(PLAN, (("a", MANY),), (("m", MANY // 2), ("n", MANY // 2), ("o", MANY))),
                   (("c", MANY), ("e", MANY // 2 + MANY)))
        self.exact(first_stop(PLAN, (("a", MANY),), (("m", MANY // 2), ("n", MANY // 2 + 1))), (1, MANY // 2))
        self.exact(most_times(PLAN, (("b", MANY), ("c", MANY - 1)), "n"), MANY - 1)
        plan = great_plan()
        names = names_of(plan)
        first = ((plan.places[0], MANY),)
        run = tuple((names[k % 11], MANY // 9 if k < 11 else 1) for k in range(200))
        self.exact(first_stop(plan, first, run), (11, 0))
        self.exact(run_end(plan, first, run[:11]), ((plan.places[0], MANY % 9), (plan.places[11], MANY - MANY % 9)))
        home = plan_of("t: a -> a, e\nu: s -> a")
        self.exact(run_end(home, heap(a=1), (("t", MANY),) * 200), heap(a=1, e=200 * MANY))

    def test_sums(self):
        run = (("n", 2), ("m", 3), ("n", 4), ("n", 1), ("m", 1))
        self.exact(self.unchanged(run_sum, run), (("m", 4), ("n", 7)))
        self.exact((steps_in(run), self.unchanged(folded, run)), (11, (("n", 2), ("m", 3), ("n", 5), ("m", 1))))
        self.exact(folded((("m", 1), ("m", 2), ("m", MANY), ("n", 1), ("m", 1))), (("m", MANY + 3), ("n", 1), ("m", 1)))
        self.exact(sum_change(PLAN, (("n", 2), ("m", 1))), (("a", -2), ("b", -1), ("c", 1), ("e", 2)))
        self.exact(sum_change(PLAN, (("m", -1), ("n", 0), ("m", 3), ("o", MANY))),
                   (("a", -4), ("b", 2), ("c", 6), ("e", MANY)))
        self.exact(sum_change(PLAN, (("m", 1), ("m", -1))), ())

    def test_steps_by_hand(self):
        rng = generator(7)
        for _ in range(300):
            plan = random_plan(rng)
            start = random_heap(rng, plan.places, 8, 5)
            can = [step[0] for step in plan.steps if step_by_hand(dict(start), step) is not None]
            self.exact(possible(plan, start), tuple(can))
            for step in plan.steps:
                behind = step_by_hand(dict(start), step)
                self.exact(behind_step(plan, start, step[0]), None if behind is None else as_heap(behind))
                stop, _ = walked(plan, start, ((step[0], 50),))
                self.exact(most_times(plan, start, step[0]), None if stop is None else stop[1])

    def test_runs_by_hand(self):
        rng = generator(8)
        done = 0
        for _ in range(600):
            plan = random_plan(rng, 4, 4, 2, 2)
            start = random_heap(rng, plan.places, 20, 4)
            run = random_run(rng, plan)
            stop, papers = walked(plan, start, run)
            self.exact(self.unchanged(first_stop, plan, start, run), stop)
            self.exact(steps_in(run), sum(number for _, number in run))
            shifts = {}
            for name, number in run:
                for place, shift in change_by_hand(triple_of(plan, name)).items():
                    shifts[place] = shifts.get(place, 0) + number * shift
            self.exact(sum_change(plan, run), as_heap({place: shift for place, shift in shifts.items() if shift}))
            if stop is None:
                done += 1
                self.exact(run_end(plan, start, run), as_heap(papers))
                self.exact(run_end(plan, start, folded(run)), as_heap(papers))
            else:
                self.refused(Refused, {"word": "papers"}, run_end, plan, start, run)
        self.assertGreater(done, 100)

    def test_no_name(self):
        for name in ("", "x", "mm", "M", "a"):
            for function in (most_times, behind_step):
                self.refused(NoName, {"name": name}, function, PLAN, (("a", 1),), name)
                self.refused(NoName, {"name": name}, function, PLAN, (), name)
            self.refused(NoName, {"name": name}, free, PLAN, name, "m")
            self.refused(NoName, {"name": name}, free, PLAN, "m", name)
        self.refused(NoName, {"name": "x"}, free, PLAN, "x", "y")


def free_by_hand(one, two):
    for first, second in ((one, two), (two, one)):
        if {place for place, _ in first[1]} & {place for heap in second[1:] for place, _ in heap}:
            return False
    return True


def all_alike(plan, plain):
    """All plain runs that come about by neighbours changing places."""
    found, left = {plain}, [plain]
    while left:
        now = left.pop()
        for at in range(len(now) - 1):
            if free_by_hand(triple_of(plan, now[at]), triple_of(plan, now[at + 1])):
                other = now[:at] + (now[at + 1], now[at]) + now[at + 2:]
                if other not in found:
                    found.add(other)
                    left.append(other)
    return found


def layers_by_hand(plan, plain):
    levels = []
    for at, name in enumerate(plain):
        behind = [levels[k] for k in range(at) if not free_by_hand(triple_of(plan, plain[k]), triple_of(plan, name))]
        levels.append(max(behind, default=-1) + 1)
    return tuple(tuple(sorted(name for name, level in zip(plain, levels) if level == now))
                 for now in range(max(levels, default=-1) + 1))


class Orders(Case):
    def test_examples(self):
        self.exact((layers(FORK, ("f", "h", "g", "j")), many_orders(FORK, ("f", "h", "g", "j")),
                    alike(FORK, ("f", "g", "h", "j"), ("f", "h", "g", "j"))), ((("f",), ("g", "h"), ("j",)), 2, True))

    def test_free(self):
        plan = plan_of("f: s -> a, b\ng: a -> c\nh: b -> d\nj: c, d -> e\nk: q -> a\nl: r -> r, a")
        pairs = {("f", "h"): False, ("g", "h"): True, ("f", "j"): True, ("g", "j"): False, ("g", "k"): False,
                 ("f", "k"): True, ("k", "l"): True, ("h", "l"): True, ("f", "l"): True, ("g", "l"): False}
        for (one, two), expected in pairs.items():
            self.exact((free(plan, one, two), free(plan, two, one)), (expected, expected))
        for name in names_of(plan):
            self.exact(free(plan, name, name), False)

    def test_free_by_hand(self):
        rng = generator(9)
        for _ in range(100):
            plan = random_plan(rng, 6, 5)
            for one in plan.steps:
                for two in plan.steps:
                    self.exact(free(plan, one[0], two[0]), free_by_hand(one, two))

    def test_empty_and_single(self):
        self.exact((layers(FORK, ()), many_orders(FORK, ()), alike(FORK, (), ()), alike(FORK, (), ("f",))),
                   ((), 1, True, False))
        self.exact((layers(FORK, ("f",)), many_orders(FORK, ("f",)), alike(FORK, ("f",), ("f",)),
                    alike(FORK, ("f",), ("f", "f"))), ((("f",),), 1, True, False))
        self.exact((can_go_first(FORK, ("f",), 0), can_go_last(FORK, ("f",), 0)), (True, True))

    def test_first_and_last(self):
        plain = ("f", "g", "h", "j", "f")
        self.exact([can_go_first(FORK, plain, k) for k in range(5)], [True, False, False, False, False])
        self.exact([can_go_last(FORK, plain, k) for k in range(5)], [False, False, False, True, True])
        plain = ("g", "h", "g")
        self.exact([can_go_first(FORK, plain, k) for k in range(3)], [True, True, False])
        self.exact([can_go_last(FORK, plain, k) for k in range(3)], [False, True, True])

    def test_all_that_are_alike(self):
        rng = generator(10)
        for _ in range(150):
            plan = random_plan(rng, 8, 5)
            names = names_of(plan)
            plain = tuple(rng.choice(names) for _ in range(rng.randint(0, 6)))
            same = all_alike(plan, plain)
            self.exact(self.unchanged(many_orders, plan, plain), len(same))
            self.exact(self.unchanged(layers, plan, plain), layers_by_hand(plan, plain))
            mixed = list(plain)
            rng.shuffle(mixed)
            for other in (plain, rng.choice(sorted(same)), tuple(mixed), plain + names[:1], plain[1:]):
                self.exact(alike(plan, plain, other), other in same)
            for at in range(len(plain)):
                rest = plain[:at] + plain[at + 1:]
                self.exact(can_go_first(plan, plain, at), (plain[at],) + rest in same
                           and all(free_by_hand(triple_of(plan, plain[at]), triple_of(plan, name)) for name in plain[:at]))
                self.exact(can_go_last(plan, plain, at), all(
                    free_by_hand(triple_of(plan, plain[at]), triple_of(plan, name)) for name in plain[at + 1:]))

    def test_greatest(self):
        names = "abcdfghijks"
        plan = plan_of("\n".join(f"{name}: {name} -> e" for name in names) + "\ny: s -> a\nz: a -> b\nx: a, b -> c")
        self.exact((len(plan.places), len(plan.steps)), (12, 14))
        plain = tuple(names) + ("a",)
        self.exact((many_orders(plan, plain), layers(plan, plain[::-1])), (math.factorial(12) // 2, (tuple(names), ("a",))))
        self.exact((many_orders(plan, plain[:11]), many_orders(plan, ("a",) * 12)), (math.factorial(11), 1))
        self.exact(many_orders(plan, ("a",) * 6 + ("b",) * 6), math.comb(12, 6))
        long = ("a", "b", "c", "d") * 10
        self.exact(layers(plan, long), (("a", "b", "c", "d"),) * 10)
        self.exact(alike(plan, long, tuple(sorted(long))), True)
        self.exact(alike(plan, long, long[1:] + ("b",)), False)
        self.exact((can_go_first(plan, long, 3), can_go_first(plan, long, 4), can_go_last(plan, long, 39),
                    can_go_last(plan, long, 35)), (True, False, True, False))


if __name__ == "__main__":
    unittest.main()
