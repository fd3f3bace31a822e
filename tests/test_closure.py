"""[13] and [14]: what can ever come about."""

import unittest

from caseshome.closure import check_rousing, comeable, live_plan, live_steps, rounds, rousing
from caseshome.plans import Plan, names_of
from caseshome.plantext import plan_text, read_plan
from caseshome.runs import need_run, run_end
from tests.helpers import (ODD, Case, as_heap, generator, great_plan, live_by_hand, nested, plan_of, random_plan,
                           step_by_hand, triple_of)

MANY = 10 ** 12
FORK = read_plan("start s\nend e\nstep f: s -> a, b\nstep g: a -> c\nstep h: b -> d\nstep j: c, d -> e")
RUN = (("f", 3), ("g", 2), ("h", 2), ("j", 1))
BARE = Plan(("a", "b"), (), "a", "b")


def rounds_by_hand(plan):
    here, left, found = {plan.start}, list(plan.steps), []
    while True:
        now = [step for step in left if {place for place, _ in step[1]} <= here]
        if not now:
            return tuple(found)
        found.append(tuple(sorted(step[0] for step in now)))
        here |= {place for step in now for place, _ in step[2]}
        left = [step for step in left if step not in now]


class Closure(Case):
    def test_examples(self):
        plan = read_plan("start s\nend e\nstep f: s -> e\nstep z: y -> e")
        self.exact((rounds(plan), comeable(plan), plan_text(live_plan(plan))),
                   ((("f",),), ("e", "s"), "start s\nend e\nplace y\nstep f: s -> e"))
        self.exact(live_steps(plan), ("f",))

    def test_no_steps(self):
        self.exact((rounds(BARE), comeable(BARE), live_steps(BARE)), ((), ("a",), ()))
        self.assertTrue(live_plan(BARE) == BARE)

    def test_all_dead(self):
        plan = plan_of("t: a -> b\nu: b -> a\nv: a, s -> e")
        self.exact((rounds(plan), comeable(plan), live_steps(plan), names_of(live_plan(plan))), ((), ("s",), (), ()))
        self.exact(live_plan(plan).places, ("a", "b", "e", "s"))

    def test_rounds(self):
        self.exact((rounds(FORK), live_steps(FORK), comeable(FORK)),
                   ((("f",), ("g", "h"), ("j",)), ("f", "g", "h", "j"), ("a", "b", "c", "d", "e", "s")))
        plan = plan_of("z: s -> b\ny: 9 b -> c\na: c, s -> b, e\nk: d, b -> e\nw: b -> b")
        self.exact((rounds(plan), comeable(plan), live_steps(plan)),
                   ((("z",), ("w", "y"), ("a",)), ("b", "c", "e", "s"), ("a", "w", "y", "z")))

    def test_by_hand(self):
        rng = generator(11)
        dead = 0
        for _ in range(300):
            plan = random_plan(rng, rng.randint(3, 8), rng.randint(0, 7))
            places, steps = live_by_hand(plan)
            dead += len(steps) < len(plan.steps)
            self.exact(self.unchanged(comeable, plan), tuple(sorted(places)))
            self.exact(self.unchanged(live_steps, plan), tuple(sorted(steps)))
            self.exact(rounds(plan), rounds_by_hand(plan))
            alive = live_plan(plan)
            self.exact((alive.places, alive.start, alive.end), (plan.places, plan.start, plan.end))
            self.exact(alive.steps, tuple(step for step in plan.steps if step[0] in steps))
        self.assertGreater(dead, 30)

    def test_greatest(self):
        plan = great_plan()
        self.exact((len(comeable(plan)), len(live_steps(plan)), len(rounds(plan))), (12, 14, 11))


class Rousing(Case):
    def roused(self, plan):
        value = self.unchanged(rousing, plan)
        self.tuples_within(value)
        cases, run = value
        self.assertIs(type(cases), int)
        need_run(plan, run)
        places, steps = live_by_hand(plan)
        self.assertLessEqual(steps, {name for name, _ in run})
        behind = dict(run_end(plan, ((plan.start, cases),) if cases else (), run))
        for place in places:
            self.assertGreaterEqual(behind.get(place, 0), 1)
        self.exact(check_rousing(plan, value), True)
        self.exact(check_rousing(value=value, plan=plan), True)
        return value

    def test_examples(self):
        self.exact((check_rousing(FORK, (4, RUN)), check_rousing(FORK, (3, RUN))), (True, False))

    def test_some_rousing(self):
        rng = generator(12)
        for _ in range(300):
            self.roused(random_plan(rng, rng.randint(3, 8), rng.randint(0, 8), 9, 3))
        for plan in (BARE, FORK, great_plan(), plan_of("t: a -> e")):
            self.roused(plan)

    def test_step_by_step(self):
        rng = generator(13)
        for _ in range(60):
            plan = random_plan(rng, 5, 4, 2, 2)
            cases, run = rousing(plan)
            papers = {plan.start: cases}
            for name, number in run:
                for _ in range(number):
                    papers = step_by_hand(papers, triple_of(plan, name))
                    self.assertIsNotNone(papers)
            self.exact(run_end(plan, ((plan.start, cases),), run), as_heap(papers))

    def test_great_numbers(self):
        text = "\n".join(f"{a}{b}: 9 {a} -> {b}" for a, b in zip("sabcdfghij", "abcdfghije"))
        plan = plan_of(text + "\nz: 9 j, 9 s -> 9 j, e")
        cases, run = self.roused(plan)
        self.exact(check_rousing(plan, (cases + 10 ** 50, run)), True)

    def test_what_is_right(self):
        for value in ((5, RUN), (MANY, RUN), (4, (("f", 1), ("f", 2), ("h", 1), ("g", 1), ("g", 1), ("h", 1), ("j", 1)))):
            self.exact(check_rousing(FORK, value), True)
        self.exact((check_rousing(BARE, (1, ())), check_rousing(BARE, (MANY, ()))), (True, True))
        plan = plan_of("t: s -> e\nu: a -> e")
        self.exact(check_rousing(plan, (2, (("t", 1),))), True)

    def test_what_is_not(self):
        for value in ((4, RUN[:3]), (4, RUN[1:]), (4, RUN[::-1]), (3, RUN), (0, RUN), (-4, RUN), (True, RUN), ("4", RUN),
                      (4, list(RUN)), [4, RUN], (4, RUN, ()), (4,), (RUN, 4), (4, ()), (0, ()), 4, RUN, None,
                      (4, RUN + (("x", 1),)), (4, RUN + (("j", 0),)), (4, RUN + (("j", -1),)), (4, RUN + (("g", True),)),
                      (4, RUN[:3] + (["j", 1],)), (4, RUN[:3] + (("j", 1, 1),)), (4, (("f", 3), ("g", 2), ("h", 2), ("j", 2))),
                      (4, (("f", 2), ("g", 1), ("h", 1), ("j", 1))), (4, (("f", 4), ("g", 3), ("h", 3), ("j", 2))),
                      (5, (("f", 3), ("g", 3), ("h", 2), ("j", 1))), (8, (("f", 4), ("g", 2), ("h", 2), ("g", 3), ("j", 1)))):
            self.exact(check_rousing(FORK, value), False)
        self.exact((check_rousing(BARE, (0, ())), check_rousing(BARE, (True, ()))), (False, False))
        plan = plan_of("t: s -> e\nu: a -> e")
        self.exact((check_rousing(plan, (1, (("t", 1),))), check_rousing(plan, (3, (("t", 1), ("u", 1)))),
                    check_rousing(plan, (2, ()))), (False, False, False))

    def test_any_values(self):
        for value in ODD + (nested(80), (nested(79), ()), (0, nested(79))):
            self.exact(check_rousing(FORK, value), False)


if __name__ == "__main__":
    unittest.main()
