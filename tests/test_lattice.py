"""[19] to [21]: what belongs to a plan."""

import unittest
from fractions import Fraction

from caseshome.lattice import (barred, belongs, check_barred, check_made, classes, coordinates, ends_order, lattice,
                               made_by, pair_at)
from caseshome.plans import Plan
from caseshome.rows import is_echelon
from tests.byhand import form_by_hand, is_fraction_by_hand, is_sum_by_hand
from tests.helpers import (ODD, Case, as_heap, change_by_hand, generator, great_plan, heap, live_by_hand, nested, plan_of,
                           random_heap, random_plan, step_by_hand, weighed_plan)

MANY = 10 ** 12
PLAN = Plan(("a", "b", "c"), (("t", (("a", 1),), (("b", 2),)), ("u", (("b", 2),), (("c", 1),))), "a", "c")
ENDLESS = Plan(("e", "s"), (("t", (("s", 1),), (("e", 2),)),), "s", "e")
BARE = Plan(("a", "b"), (), "a", "b")


def rows_by_hand(plan):
    """The rows of all live steps, then that of the start."""
    live = live_by_hand(plan)[1]
    rows = []
    for step in plan.steps:
        if step[0] in live:
            change = change_by_hand(step)
            rows.append(tuple(change.get(place, 0) for place in plan.places) + (0,))
    return tuple(rows) + (tuple(int(place == plan.start) for place in plan.places) + (1,),)


def row_of(plan, cases, papers):
    return tuple(dict(papers).get(place, 0) for place in plan.places) + (cases,)


class Lattice(Case):
    def test_examples(self):
        self.exact((lattice(PLAN), belongs(PLAN, 1, (("b", 2),)), belongs(PLAN, 1, (("b", 1),)),
                    made_by(PLAN, 1, (("b", 2),)), ends_order(PLAN)),
                   (((1, 0, 0, 1), (0, 2, 0, 1), (0, 0, 1, 1)), True, False, (("t", 1),), 1))
        self.exact((classes(PLAN, ((("a", 1),), (("b", 2),), (("b", 1),))), coordinates(PLAN, 3, (("b", 2),)),
                    pair_at(PLAN, (0, -2, 1, 3))), ((0, 0, 2), (0, 2, 0, 3), (3, (("b", -2), ("c", 1)))))
        self.exact((check_barred(ENDLESS, 1, (("e", 3),), ((("e", (1, 2)), ("s", (0, 1))), (0, 1))),
                    check_made(ENDLESS, 2, (("e", 4),), (("t", 2),)), made_by(ENDLESS, 1, (("e", 3),)),
                    ends_order(ENDLESS)), (True, True, None, None))

    def test_no_steps(self):
        self.exact((lattice(BARE), belongs(BARE, 3, (("a", 3),)), belongs(BARE, 3, (("b", 3),)), belongs(BARE, 0, ()),
                    made_by(BARE, 3, (("a", 3),)), ends_order(BARE), classes(BARE, ())),
                   (((1, 0, 1),), True, False, True, (), None, ()))

    def test_dead_steps_do_not_count(self):
        plan = plan_of("t: s -> a\nz: y -> e\ny: x, a -> e")
        self.exact(lattice(plan), form_by_hand(rows_by_hand(plan)))
        self.exact((belongs(plan, 1, heap(e=1)), belongs(plan, 1, heap(a=1)), ends_order(plan)), (False, True, None))
        self.exact(check_made(plan, 0, (), ()), True)
        for value in ((("z", 1),), (("t", 1), ("z", 1)), (("y", 1),)):
            self.exact(check_made(plan, 1, heap(e=1), value), False)
            self.exact(check_made(plan, 0, (), value), False)

    def test_coordinates(self):
        self.exact((coordinates(PLAN, -2, ()), coordinates(PLAN, 0, heap(a=1, c=MANY)), coordinates(BARE, 1, heap(b=2))),
                   ((0, 0, 0, -2), (1, 0, MANY, 0), (0, 2, 1)))
        self.exact((pair_at(PLAN, (0, 0, 0, 0)), pair_at(PLAN, (1, 2, 3, -4)), pair_at(BARE, (10 ** 20, 0, 7))),
                   ((0, ()), (-4, heap(a=1, b=2, c=3)), (7, (("a", 10 ** 20),))))
        rng = generator(30)
        for _ in range(100):
            plan = random_plan(rng)
            papers, cases = random_heap(rng, plan.places, 9, 5), rng.randint(-5, 5)
            self.exact(coordinates(plan, cases, papers), row_of(plan, cases, papers))
            self.exact(pair_at(plan, coordinates(plan, cases, papers)), (cases, papers))

    def test_great_plans(self):
        plan = great_plan()
        form = lattice(plan)
        self.exact(form, form_by_hand(rows_by_hand(plan)))
        first, last = plan.places[0], plan.places[11]
        self.exact((belongs(plan, MANY, ((first, MANY),)), belongs(plan, 9, ((last, 9),)), belongs(plan, 1, ((last, 1),)),
                    ends_order(plan)), (True, True, False, 9))
        self.exactly_one(plan, MANY, ((first, MANY),))
        self.exactly_one(plan, MANY, ((last, MANY),))
        rng = generator(31)
        for _ in range(20):
            plan = random_plan(rng, 12, 14, 9, 3)
            self.exact(lattice(plan), form_by_hand(rows_by_hand(plan)))
            self.exactly_one(plan, rng.randint(-MANY, MANY), random_heap(rng, plan.places, MANY, 12))
            self.assertIn(type(ends_order(plan)), (int, type(None)))

    def test_what_comes_about_belongs(self):
        rng = generator(32)
        for _ in range(60):
            plan = random_plan(rng, 5, 4)
            cases = rng.randint(1, 9)
            papers = {plan.start: cases}
            for _ in range(12):
                steps = [step for step in plan.steps if step_by_hand(papers, step) is not None]
                if not steps:
                    break
                papers = step_by_hand(papers, rng.choice(steps))
                self.exact(belongs(plan, cases, as_heap(papers)), True)
                self.exact(belongs(plan, -cases, as_heap(papers)),
                           is_sum_by_hand(form_by_hand(rows_by_hand(plan)), row_of(plan, -cases, papers)))

    def exactly_one(self, plan, cases, papers):
        value, bar = self.unchanged(made_by, plan, cases, papers), self.unchanged(barred, plan, cases, papers)
        self.assertEqual((value is None) + (bar is None), 1)
        self.exact(belongs(plan, cases, papers), bar is None)
        if bar is None:
            self.right_made(plan, cases, papers, value)
        else:
            self.right_bar(plan, cases, papers, bar)
        return bar is None

    def right_made(self, plan, cases, papers, value):
        live = live_by_hand(plan)[1]
        self.exact(value, tuple(sorted(value)))
        self.assertEqual(len(dict(value)), len(value))
        total = {plan.start: cases}
        for name, number in value:
            self.assertIn(name, live)
            self.assertTrue(type(number) is int and number != 0)
            for place, shift in change_by_hand([step for step in plan.steps if step[0] == name][0]).items():
                total[place] = total.get(place, 0) + number * shift
        self.exact(as_heap({place: number for place, number in total.items() if number}), papers)
        self.exact(check_made(plan, cases, papers, value), True)

    def right_bar(self, plan, cases, papers, value):
        by_places, by_case = value
        self.exact(tuple(place for place, _ in by_places), plan.places)
        bar = [one for _, one in by_places] + [by_case]
        self.assertTrue(all(is_fraction_by_hand(one) for one in bar))
        for row in rows_by_hand(plan):
            self.exact(sum(Fraction(*one) * number for one, number in zip(bar, row)).denominator, 1)
        worth = sum(Fraction(*one) * number for one, number in zip(bar, row_of(plan, cases, papers)))
        self.assertGreater(worth.denominator, 1)
        self.tuples_within(value)
        self.exact(check_barred(plan, cases, papers, value), True)

    def test_exactly_one(self):
        rng = generator(33)
        counts, dead = [0, 0], 0
        for count in range(300):
            plan = random_plan(rng, 4, 4) if count % 2 else weighed_plan(rng)
            dead += len(live_by_hand(plan)[1]) < len(plan.steps)
            cases, papers = rng.randint(-3, 4), random_heap(rng, plan.places, 4, 3)
            if rng.random() < 0.5:
                live = [step for step in plan.steps if step[0] in live_by_hand(plan)[1]]
                total = {plan.start: cases}
                for step in live:
                    number = rng.randint(-2, 2)
                    for place, shift in change_by_hand(step).items():
                        total[place] = total.get(place, 0) + number * shift
                if min(total.values()) >= 0:
                    papers = as_heap({place: number for place, number in total.items() if number})
                    self.assertTrue(self.exactly_one(plan, cases, papers))
            found = self.exactly_one(plan, cases, papers)
            self.exact(found, is_sum_by_hand(form_by_hand(rows_by_hand(plan)), row_of(plan, cases, papers)))
            self.assertTrue(is_echelon(lattice(plan)))
            self.exact(lattice(plan), form_by_hand(rows_by_hand(plan)))
            counts[found] += 1
        self.assertGreater(min(counts), 50)
        self.assertGreater(dead, 30)

    def test_empty_heaps(self):
        self.assertTrue(self.exactly_one(PLAN, 0, ()))
        self.assertFalse(self.exactly_one(PLAN, 1, ()))
        self.exact((made_by(PLAN, 0, ()), barred(PLAN, 0, ())), ((), None))

    def test_check_made(self):
        plan = plan_of("t: s -> a\nu: s -> a\nv: a -> e")
        for value in ((("t", 3), ("v", 2)), (("u", 3), ("v", 2)), (("t", -MANY), ("u", MANY + 3), ("v", 2))):
            self.exact(check_made(plan, 4, heap(a=1, e=2, s=1), value), True)
            self.exact(check_made(value=value, heap=heap(a=1, e=2, s=1), cases=4, plan=plan), True)
        for value in ((("t", 3),), (("v", 2), ("t", 3)), (("t", 1), ("t", 2), ("v", 2)), (("t", 3), ("u", 0), ("v", 2)),
                      [("t", 3), ("v", 2)], (["t", 3], ("v", 2)), (("t", 3), ("v", 2), ("x", 1)), (("t", 3), ("v", 2, 0)),
                      (("t", 3), ("v", 3)), (("t", "3"), ("v", 2)), (("t", 3), ("v",)), (), None, 3, "t", ("t", 3)):
            self.exact(check_made(plan, 4, heap(a=1, e=2, s=1), value), False)
        self.exact((check_made(plan, 1, heap(a=1), (("t", 1),)), check_made(plan, 1, heap(a=1), (("t", True),)),
                    check_made(plan, 2, heap(a=1), (("t", 1),)), check_made(plan, 1, heap(s=1), ())),
                   (True, False, False, True))
        for value in ODD + (nested(80),):
            self.exact(check_made(plan, 4, heap(a=1, e=2, s=1), value), False)

    def test_check_barred(self):
        papers = (("e", 3),)
        for value in (((("e", (1, 2)), ("s", (0, 1))), (0, 1)), ((("e", (1, 2)), ("s", (5, 1))), (-7, 1)),
                      ((("e", (1, 4)), ("s", (1, 2))), (1, 2)),
                      ((("e", (10 ** 150 + 1, 2)), ("s", (-10 ** 120, 1))), (10 ** 130, 1)), ((("e", (-1, 2)), ("s", (0, 1))), (0, 1))):
            self.exact(check_barred(ENDLESS, 1, papers, value), True)
            self.exact(check_barred(value=value, heap=papers, cases=1, plan=ENDLESS), True)
        for value in (((("e", (0, 1)), ("s", (0, 1))), (0, 1)), ((("e", (1, 2)), ("s", (0, 1))), (1, 2)),
                      ((("e", (1, 2)), ("s", (1, 2))), (1, 2)), ((("e", (1, 3)), ("s", (0, 1))), (0, 1)),
                      ((("e", (2, 4)), ("s", (0, 1))), (0, 1)), ((("e", (1, 2)), ("s", (0, 2))), (0, 1)),
                      ((("e", (1, 2)), ("s", (0, 1))), (0, 3)), ((("e", (1, 2)), ("s", (1, 0))), (0, 1)), ((("e", (1, 2)), ("s", (0, 1))), 0),
                      ((("s", (0, 1)), ("e", (1, 2))), (0, 1)), ((("e", (1, 2)),), (0, 1)), ((("e", (1, 2)),) * 2, (0, 1)),
                      ((("e", (1, 2)), ("s", (0, 1)), ("s", (0, 1))), (0, 1)), [(("e", (1, 2)), ("s", (0, 1))), (0, 1)],
                      ([("e", (1, 2)), ("s", (0, 1))], (0, 1)), ((["e", (1, 2)], ("s", (0, 1))), (0, 1)),
                      ((("e", [1, 2]), ("s", (0, 1))), (0, 1)), ((("e", (1, 2)), ("s", (0, 1))), [0, 1]),
                      ((("e", (True, 2)), ("s", (0, 1))), (0, 1)), ((("e", (1, 2)), ("s", (False, 1))), (0, 1)),
                      ((("e", (1, 2)), ("s", (0, 1))), (0, True)), ((("e", (1, 2)), ("t", (0, 1))), (0, 1)),
                      ((("e", (1, 2)), ("s", (0, 1))), (0, 1), ()), ((("e", (1, 2)), ("s", (0, 1))),), None, (), 3,
                      ((("e", (1, 2), 0), ("s", (0, 1))), (0, 1)), ((("e", (1, 2)), (1, (0, 1))), (0, 1)),
                      (((0, (1, 2)), ("s", (0, 1))), (0, 1)), ((("e", (-1, -2)), ("s", (0, 1))), (0, 1))):
            self.exact(check_barred(ENDLESS, 1, papers, value), False)
        self.exact(check_barred(ENDLESS, 1, (("e", 2),), ((("e", (1, 2)), ("s", (0, 1))), (0, 1))), False)
        for value in ODD + (nested(80), (nested(79), (0, 1))):
            self.exact(check_barred(ENDLESS, 1, papers, value), False)

    def test_dead_steps_need_no_whole_worth(self):
        plan = plan_of("t: s -> 2 e\nz: y -> e")
        value = ((("e", (1, 2)), ("s", (0, 1)), ("y", (1, 7))), (0, 1))
        self.exact(check_barred(plan, 1, (("e", 3),), value), True)


class Ends(Case):
    def test_ends_order(self):
        for text, expected in (("t: s -> e", 1), ("t: s -> a", None), ("t: s -> 2 e", None), ("t: 3 s -> 3 e", 3),
                               ("t: 2 s -> a\nu: 3 a -> 6 e", 6), ("t: 2 s -> 2 e\nu: 3 s -> 3 e", 1), ("", None),
                               ("t: s -> 2 a\nu: 3 a -> e", None), ("t: s -> 2 a\nu: 3 a -> a, e", 1),
                               ("t: 9 s -> 9 a\nu: 8 a -> 8 b\nv: 7 b -> 7 e", 504), ("t: s -> a\nu: x -> e", None)):
            self.exact(ends_order(plan_of(text)), expected)

    def test_ends_order_by_hand(self):
        rng = generator(34)
        for _ in range(150):
            plan = weighed_plan(rng)
            form = form_by_hand(rows_by_hand(plan))
            number = ends_order(plan)
            whole = [n for n in range(1, 60) if is_sum_by_hand(form, row_of(plan, n, ((plan.end, n),)))]
            if number is None or number >= 60:
                self.exact(whole, [])
            else:
                self.exact(whole, list(range(number, 60, number)))

    def test_classes(self):
        heaps = [heap(a=1), heap(b=2), heap(b=1), heap(b=3), heap(c=1), heap(a=2), (), heap(a=1, b=1)]
        for sort in (list, tuple):
            self.exact(self.unchanged(classes, PLAN, sort(heaps)), (0, 0, 2, 3, 0, 5, 6, 3))
            self.exact((classes(PLAN, sort([])), classes(PLAN, sort([()])), classes(PLAN, sort([heap(b=1)] * 3))),
                       ((), (0,), (0, 0, 0)))
        self.exact(classes(PLAN, (heap(b=MANY), heap(b=MANY - 2, c=1), heap(b=MANY - 2, a=2))), (0, 0, 2))

    def test_classes_by_hand(self):
        rng = generator(35)
        for _ in range(60):
            plan = random_plan(rng, 3, 3)
            heaps = [random_heap(rng, plan.places, 2, 3) for _ in range(8)]
            form = form_by_hand(rows_by_hand(plan))
            expected = []
            for one in heaps:
                for at, other in enumerate(heaps):
                    gap = tuple(x - y for x, y in zip(row_of(plan, 0, one), row_of(plan, 0, other)))
                    if is_sum_by_hand(form, gap):
                        expected.append(at)
                        break
            self.exact(classes(plan, heaps), tuple(expected))


if __name__ == "__main__":
    unittest.main()
