"""[37], [39] and [40]: whether a plan is whole, and whether a crew is sure."""

import unittest

from caseshome.court import (Growing, Stuck, Sure, Unsure, Whole, Wide, check_sure, check_verdict, sure, verdict,
                             whole_or_not)
from caseshome.errors import NoName, Refused
from caseshome.lists import least_heaps
from caseshome.plans import Plan, names_of
from caseshome.plantext import read_plan
from caseshome.weights import of_nothing
from tests.helpers import ODD, Case, generator, heap, nested, plan_of, random_plan, weighed_plan
from tests.search import (GREAT, GROWING, STUCK, WHOLE, belongs_by_hand, end_by_hand, ends, first_lost, is_closed, live_of,
                          starts, walk_by_hand, whole_plan)

PLAN = read_plan("start s\nend e\nstep f: s -> a, b\nstep g: a, b -> e\nstep h: 2 a -> 2 c\nstep k: b, c -> e")
LOST = read_plan("start s\nend e\nstep p: s -> 2 a\nstep q: 3 a -> e")
DEAD = plan_of("t: s -> a\nu: a -> e\nz: y -> 2 y\nx: y -> e")
# Its least heaps lead to 3, 2, 1 and 4 heaps, in their order.
STAIRS = plan_of("t: s -> b\nu: b -> c\nv: c -> e")


def parts_of(told):
    """The class and all attributes of what a court tells."""
    return type(told).__name__, tuple(sorted(vars(told).items()))


def verdict_by_hand(plan, most, crew=None, pairs=None):
    """What is told of a plan with kept weights, by its least heaps gone through one by one."""
    crew, endings = live_of(plan) if crew is None else crew, []
    for cases, papers in least_heaps(plan) if pairs is None else pairs:
        found = walk_by_hand(plan, crew, papers, most)
        if found is None:
            return ("Wide", (("cases", cases), ("heap", papers)))
        if ends(plan, cases) not in found:
            return ("Stuck", (("cases", cases), ("heap", papers), ("lot", tuple(sorted(found)))))
        endings.append(found[ends(plan, cases)])
    return ("Whole", (("endings", tuple(endings)),))


class Verdicts(Case):
    def test_examples(self):
        self.exact((verdict(PLAN, 10).endings, whole_or_not(PLAN, 10), whole_or_not(PLAN, 2)),
                   ((("g",), ("k",), (), ("f", "g")), True, None))
        found = verdict(LOST, 10)
        self.exact((found.cases, found.heap, found.lot), (1, (("a", 2),), ((("a", 2),),)))

    def test_known_shapes(self):
        for texts, name, told in ((WHOLE, "Whole", True), (STUCK, "Stuck", False), (GROWING, "Growing", False)):
            for text in texts:
                plan = plan_of(text)
                found = self.unchanged(verdict, plan, 4000)
                self.exact(type(found).__name__, name)
                self.exact(whole_or_not(plan, 4000), told)
                self.exact(check_verdict(plan, found), True)
                if name == "Growing":
                    self.exact(found.made, of_nothing(plan))
                    self.exact((whole_or_not(plan, 1), parts_of(verdict(plan, 1))), (False, parts_of(found)))
                else:
                    self.exact(parts_of(found), verdict_by_hand(plan, 4000))

    def test_by_hand(self):
        rng = generator(90)
        counts = {"Wide": 0, "Stuck": 0, "Whole": 0}
        for at in range(300):
            plan = weighed_plan(rng, rng.randint(2, 4), rng.randint(0, 4), 2, 2) if at % 3 == 0 else whole_plan(rng)
            most = rng.choice((1, 2, 3, 4, 5, 8, 60))
            expected = verdict_by_hand(plan, most)
            found = verdict(plan, most)
            self.exact(parts_of(found), expected)
            self.exact(whole_or_not(plan, most), {"Wide": None, "Stuck": False, "Whole": True}[expected[0]])
            self.exact(check_verdict(plan, found), expected[0] != "Wide")
            counts[expected[0]] += 1
        self.assertGreater(min(counts.values()), 30)

    def test_growing_by_hand(self):
        rng = generator(91)
        many = 0
        for _ in range(150):
            plan = random_plan(rng, 4, 4, 2, 2)
            found = verdict(plan, 50)
            self.exact(isinstance(found, Growing), of_nothing(plan) is not None)
            if isinstance(found, Growing):
                self.exact(found.made, of_nothing(plan))
                many += 1
        self.assertGreater(many, 30)

    def test_just_as_many_as_most_and_one_more(self):
        self.exact([len(walk_by_hand(STAIRS, live_of(STAIRS), papers)) for _, papers in least_heaps(STAIRS)], [3, 2, 1, 4])
        self.assertTrue(verdict(STAIRS, 4) == Whole((("u", "v"), ("v",), (), ("t", "u", "v"))))
        self.assertTrue(verdict(STAIRS, 3) == Wide(1, heap(s=1)))
        self.assertTrue(verdict(STAIRS, 2) == Wide(1, heap(b=1)))
        self.assertTrue(verdict(STAIRS, 1) == Wide(1, heap(b=1)))

    def test_the_first_least_heap_decides(self):
        # In the order of least heaps: b is wide above 2, d is lost.
        wide_first = plan_of("t: s -> b\nu: b -> c\nv: c -> e\nw: s -> d")
        self.exact([papers for _, papers in least_heaps(wide_first)], [heap(b=1), heap(c=1), heap(d=1), heap(e=1), heap(s=1)])
        self.assertTrue(verdict(wide_first, 2) == Wide(1, heap(b=1)))
        self.assertTrue(verdict(wide_first, 3) == Stuck(1, heap(d=1), (heap(d=1),)))
        lost_first = plan_of("t: s -> b\nu: b -> c\nv: c -> e\nw: s -> a")
        for most in (1, 2, 3, 4, 9):
            self.assertTrue(verdict(lost_first, most) == Stuck(1, heap(a=1), (heap(a=1),)))
        # Of more cases later: (1, b) is lost ahead of (2, ..).
        self.assertTrue(verdict(plan_of("t: 2 s -> 2 b"), 9) == Stuck(1, heap(s=1), (heap(s=1),)))

    def test_no_steps_and_dead_ones(self):
        for plan in (plan_of(""), plan_of("", places=("x", "y")), plan_of("z: y -> e"), plan_of("z: y -> 2 y")):
            self.assertTrue(verdict(plan, 1) == Stuck(1, heap(s=1), (heap(s=1),)))
        self.assertTrue(verdict(DEAD, 3) == Whole((("u",), (), ("t", "u"))))
        self.assertTrue(verdict(DEAD, 2) == Wide(1, heap(s=1)))

    def test_greatest(self):
        # Steps round three places with seven papers in them: 36 least heaps that lead to all of them.
        lines = ["in: s -> 7 a", "out: 7 a -> e", "op: 7 b -> e", "oq: 7 c -> e"]
        lines += [f"{one}{two}: {one} -> {two}" for one, two in ("ab", "bc", "ca", "ac", "cb", "ba")]
        plan = plan_of("\n".join(lines), places=("f", "g", "h", "i", "j", "k"))
        self.exact(len(least_heaps(plan)), 38)
        for _ in range(20):
            found = verdict(plan, 4000)
            self.exact((type(found), len(found.endings), check_verdict(plan, found)), (Whole, 38, True))
            self.assertTrue(isinstance(verdict(plan, 37), Wide))
            self.assertTrue(sure(plan, names_of(plan), 4000) == Sure(found.endings))

    def test_many_heaps_in_all(self):
        sizes = [len(walk_by_hand(GREAT, live_of(GREAT), papers)) for _, papers in least_heaps(GREAT)]
        self.exact((sum(sizes), max(sizes)), (5322, 2003))
        for _ in range(10):
            found = verdict(GREAT, 2003)
            self.exact((type(found), check_verdict(GREAT, found)), (Whole, True))
            self.assertTrue(verdict(GREAT, 2002) == Wide(9, heap(x=9)))
            self.assertTrue(sure(GREAT, live_of(GREAT), 4000) == Sure(found.endings))
            self.assertTrue(isinstance(sure(GREAT, live_of(GREAT)[1:], 4000), Unsure))


class CheckedVerdicts(Case):
    def test_right_values(self):
        self.exact(check_verdict(PLAN, Whole((("g",), ("k",), (), ("f", "g")))), True)
        self.exact(check_verdict(STAIRS, Whole((("u", "v"), ("v",), (), ("t", "u", "v")))), True)
        ring = plan_of("t: s -> b\nu: b -> c\nx: c -> b\nv: c -> e")
        self.exact(check_verdict(ring, Whole((("u", "x", "u", "v"), ("v",), (), ("t", "u", "x", "u", "v")))), True)
        self.exact(check_verdict(LOST, Stuck(1, heap(a=2), (heap(a=2),))), True)
        self.exact(check_verdict(LOST, Stuck(2, heap(a=4), (heap(a=1, e=1), heap(a=4)))), True)
        self.exact(check_verdict(LOST, Stuck(2, heap(a=4), (heap(a=1, e=1), heap(a=4), heap(s=1)))), False)
        self.exact(check_verdict(LOST, Stuck(2, heap(a=4), (heap(a=1, e=1), heap(a=2, e=7), heap(a=4)))), True)
        growing = plan_of(GROWING[0])
        self.exact(check_verdict(growing, Growing((("u", 5),))), True)
        self.exact(check_verdict(growing, Growing((("t", 1), ("u", 5)))), False)
        self.exact(check_verdict(growing, Stuck(1, heap(s=1), (heap(s=1),))), False)

    def test_wrong_endings(self):
        right = (("g",), ("k",), (), ("f", "g"))
        for at in range(4):
            self.exact(check_verdict(PLAN, Whole(right[:at] + right[at + 1:])), False)
            self.exact(check_verdict(PLAN, Whole(right[:at + 1] + right[at:])), False)
            for wrong in (list(right[at]), right[at] + ("f",), right[at] + ("nn",), tuple((name, 1) for name in right[at]) + (("f", 1),),
                          ("h",), None, "g", 1, (None,), (1,), (("g",),), right[at][:-1] if right[at] else ("g",)):
                self.exact(check_verdict(PLAN, Whole(right[:at] + (wrong,) + right[at + 1:])), False)
        # Rows are no plain run.
        self.exact(check_verdict(PLAN, Whole(((("g", 1),), ("k",), (), ("f", "g")))), False)
        for value in (right[::-1], list(right), (), None, 1, (right,)):
            self.exact(check_verdict(PLAN, Whole(value)), False)
        # A dead step is no live one, though nothing is wrong with what it does.
        lent = Plan(("e", "s", "y"), (("t", heap(s=1), heap(e=1)), ("z", heap(y=1), heap(e=1))), "s", "e")
        self.exact(check_verdict(lent, Whole(((), ("t",)))), True)
        self.exact(check_verdict(lent, Whole((("z",), ("t",)))), False)
        self.exact(check_verdict(plan_of(GROWING[1]), Whole(())), False)

    def test_wrong_lots(self):
        lot = (heap(a=1, e=1), heap(a=4))
        self.exact(check_verdict(LOST, Stuck(2, heap(a=4), lot)), True)
        for cases in (1, 3, 0, -2, True, None, "2", (2,), 2 ** 70):
            self.exact(check_verdict(LOST, Stuck(cases, heap(a=4), lot)), False)
        for papers in (heap(a=1, e=1, s=1), heap(a=3), (), heap(a=2, e=1), [("a", 4)], None, 4, (("a", True),), heap(x=4), heap(a=4, x=1)):
            self.exact(check_verdict(LOST, Stuck(2, papers, lot)), False)
        for value in (lot[:1], lot[1:], lot[::-1], list(lot), lot + lot[1:], (), None, lot + (heap(e=2),), lot + (heap(x=1),),
                      (list(lot[0]), lot[1])):
            self.exact(check_verdict(LOST, Stuck(2, heap(a=4), value)), False)
        # What does not belong shows nothing: 3 papers are no 2 cases.
        self.exact(check_verdict(LOST, Stuck(2, heap(a=5), (heap(a=2, e=1), heap(a=5)))), False)
        self.exact(check_verdict(PLAN, Stuck(1, heap(a=1), (heap(a=1),))), False)
        # No case is no case that is lost.
        self.exact(check_verdict(LOST, Stuck(0, (), ((),))), False)

    def test_other_classes_and_any_values(self):
        values = ODD + (nested(80), Wide(1, heap(s=1)), Sure((("g",), ("k",), (), ("f", "g"))), Unsure(1, heap(a=2), (heap(a=2),)),
                        Growing(()), Growing(None), Growing((("u", True),)), Growing([("u", 1)]), Whole(PLAN), Stuck(PLAN, PLAN, PLAN))
        for value in values:
            for plan in (PLAN, LOST, plan_of(GROWING[0]), plan_of("")):
                self.exact(check_verdict(plan, value), False)
        for value in ODD:
            for told in (Whole(value), Whole((value,) * 4), Stuck(value, heap(a=2), (heap(a=2),)), Stuck(1, value, (heap(a=2),)),
                         Stuck(1, heap(a=2), value), Stuck(1, heap(a=2), (value,)), Growing(value), Growing((value,))):
                # One case of LOST, told as lost with what it leads to, is the right one of all these.
                right = isinstance(told, Stuck) and (told.cases, told.lot) == (1, (heap(a=2),)) and told.heap == heap(a=2)
                self.exact(check_verdict(LOST, told), right and not isinstance(told.cases, bool))

    def test_by_chance(self):
        rng = generator(92)
        counts = [0, 0]
        for _ in range(200):
            plan = weighed_plan(rng, rng.randint(2, 4), rng.randint(1, 4), 2, 2)
            papers = walk_by_hand(plan, live_of(plan), starts(plan, 2), 60)
            if papers is None:
                continue
            cases, one = rng.randint(1, 2), rng.choice(sorted(papers))
            found = walk_by_hand(plan, live_of(plan), one, 60)
            lot = tuple(sorted(found))
            if rng.random() < 0.4:
                lot = lot[:-1]
            expected = (belongs_by_hand(plan, cases, one) and one in lot and ends(plan, cases) not in lot
                        and is_closed(plan, live_of(plan), lot))
            self.exact(check_verdict(plan, Stuck(cases, one, lot)), expected)
            if expected:
                self.exact(whole_or_not(plan, 4000), False)
            counts[expected] += 1
        self.assertGreater(min(counts), 25)


class Sureness(Case):
    def test_examples(self):
        found = sure(PLAN, ("f", "g", "h"), 10)
        self.exact((found.cases, found.heap, found.lot), (1, (("b", 1), ("c", 1)), ((("b", 1), ("c", 1)),)))

    def test_by_hand(self):
        rng = generator(93)
        counts = [0, 0]
        for _ in range(200):
            plan = whole_plan(rng)
            names = names_of(plan)
            crew = tuple(sorted(rng.sample(names, rng.randint(max(0, len(names) - 2), len(names)))))
            most = max(len(walk_by_hand(plan, live_of(plan), papers)) for _, papers in least_heaps(plan))
            found = self.unchanged(sure, plan, crew, most)
            name, told = verdict_by_hand(plan, 4000, crew)
            self.exact(parts_of(found), ({"Whole": "Sure", "Stuck": "Unsure"}[name], told))
            self.exact(check_sure(plan, crew, found), True)
            self.refused(Refused, {"word": "whole"}, sure, plan, crew, most - 1 or 1) if most > 1 else None
            counts[name == "Whole"] += 1
        self.assertGreater(min(counts), 30)

    def test_edges(self):
        self.assertTrue(sure(PLAN, (), 10) == Unsure(1, heap(a=1, b=1), (heap(a=1, b=1),)))
        self.assertTrue(sure(PLAN, ("f", "g", "h", "k"), 10) == Sure((("g",), ("k",), (), ("f", "g"))))
        self.assertTrue(sure(PLAN, ("f", "g", "k"), 10) == Sure((("g",), ("k",), (), ("f", "g"))))
        self.assertTrue(sure(DEAD, ("t", "u", "x"), 3) == Sure((("u",), (), ("t", "u"))))
        self.assertTrue(sure(DEAD, ("x",), 3) == Unsure(1, heap(a=1), (heap(a=1),)))

    def test_refusals_in_order(self):
        for text in STUCK + GROWING:
            plan = plan_of(text + "\nz: y -> 2 y")
            self.refused(NoName, {"name": "nn"}, sure, plan, ("nn", "z"), 10)
            self.refused(Refused, {"word": "whole"}, sure, plan, ("z",), 10)
            self.refused(Refused, {"word": "whole"}, sure, plan, (), 10)
        self.refused(NoName, {"name": "nn"}, sure, DEAD, ("nn", "z"), 1)
        self.refused(NoName, {"name": "b"}, sure, DEAD, ("b", "nn"), 3)
        self.refused(Refused, {"word": "whole"}, sure, DEAD, ("z",), 2)
        self.refused(Refused, {"word": "weights"}, sure, DEAD, ("z",), 3)
        self.refused(Refused, {"word": "weights"}, sure, DEAD, ("t", "u", "x", "z"), 3)
        self.refused(Refused, {"word": "whole"}, sure, PLAN, ("f",), 2)
        self.refused(NoName, {"name": "nn"}, check_sure, DEAD, ("nn",), None)
        self.refused(NoName, {"name": "nn"}, check_sure, plan_of(GROWING[0]), ("nn",), None)

    def test_check_sure(self):
        right, crew = (("g",), ("k",), (), ("f", "g")), ("f", "g", "k")
        self.exact(check_sure(PLAN, crew, Sure(right)), True)
        self.exact(check_sure(PLAN, ("f", "g"), Sure(right)), False)
        self.exact(check_sure(PLAN, ("f", "g", "h", "k"), Sure(right)), True)
        for at in range(4):
            self.exact(check_sure(PLAN, crew, Sure(right[:at] + right[at + 1:])), False)
            for wrong in (list(right[at]), right[at] + ("f",), tuple((name, 1) for name in right[at]) + (("f", 1),), ("h",), None):
                self.exact(check_sure(PLAN, crew, Sure(right[:at] + (wrong,) + right[at + 1:])), False)
        for value in (right[::-1], list(right), (), None, (right,), right + ((),)):
            self.exact(check_sure(PLAN, crew, Sure(value)), False)
        one, lot = heap(b=1, c=1), (heap(b=1, c=1),)
        self.exact(check_sure(PLAN, ("f", "g", "h"), Unsure(1, one, lot)), True)
        self.exact(check_sure(PLAN, ("f", "g", "h", "k"), Unsure(1, one, lot)), False)
        self.exact(check_sure(PLAN, ("f", "g", "h"), Unsure(1, one, lot + (heap(e=2),))), True)
        for cases, papers, heaps in ((2, one, lot), (0, one, lot), (True, one, lot), (1, heap(b=1), (heap(b=1),)), (1, one, ()),
                                     (1, one, lot + (heap(e=1),)), (1, one, list(lot)), (1, list(one), lot), (1, one, None),
                                     (1, one, lot + (heap(s=1),)), (None, one, lot), (1, None, lot), (1, heap(x=1), (heap(x=1),))):
            self.exact(check_sure(PLAN, ("f", "g", "h"), Unsure(cases, papers, heaps)), False)
        # Another pair that belongs, not the first one that is lost; also of a plan that is not whole.
        self.exact(check_sure(PLAN, ("f", "g", "h"), Unsure(2, heap(b=1, c=1, e=1), (heap(b=1, c=1, e=1),))), True)
        self.exact(check_sure(LOST, ("p", "q"), Unsure(1, heap(a=2), (heap(a=2),))), True)
        self.exact(check_sure(LOST, (), Unsure(1, heap(s=1), (heap(s=1),))), True)
        self.exact(check_sure(LOST, ("p",), Unsure(1, heap(s=1), (heap(s=1),))), False)

    def test_check_sure_of_plans_without_weights(self):
        for text in GROWING:
            plan = plan_of(text)
            for value in (Sure(()), Unsure(1, heap(s=1), (heap(s=1),)), Sure((("t",),)), Growing(of_nothing(plan))):
                self.exact(check_sure(plan, (), value), False)

    def test_check_sure_with_any_values(self):
        for value in ODD + (nested(80), Whole((("g",), ("k",), (), ("f", "g"))), Stuck(1, heap(b=1, c=1), (heap(b=1, c=1),)),
                            Wide(1, heap(s=1)), Sure(PLAN), Unsure(PLAN, PLAN, PLAN)):
            self.exact(check_sure(PLAN, ("f", "g", "h"), value), False)
        for value in ODD:
            for told in (Sure(value), Sure((value,) * 4), Unsure(value, heap(s=1), (heap(s=1),)), Unsure(1, value, (heap(s=1),)),
                         Unsure(1, heap(s=1), value), Unsure(1, heap(s=1), (value,))):
                right = isinstance(told, Unsure) and told.cases == 1 and told.heap == heap(s=1) and told.lot == (heap(s=1),)
                self.exact(check_sure(PLAN, (), told), right and not isinstance(told.cases, bool))

    def test_sure_exactly_if_each_least_heap_is_led(self):
        rng = generator(94)
        for _ in range(60):
            plan = whole_plan(rng)
            crew = tuple(sorted(rng.sample(names_of(plan), rng.randint(0, len(plan.steps)))))
            found = sure(plan, crew, 4000)
            lost = first_lost(plan, crew, least_heaps(plan))
            self.exact(isinstance(found, Sure), lost is None)
            if lost is None:
                for (cases, papers), run in zip(least_heaps(plan), found.endings):
                    self.exact(end_by_hand(plan, papers, run), ends(plan, cases))
            else:
                self.exact((found.cases, found.heap), lost)


class Classes(Case):
    def test_attributes_and_equal(self):
        kept = ["x"]
        for kind, names in ((Growing, ("made",)), (Wide, ("cases", "heap")), (Stuck, ("cases", "heap", "lot")), (Whole, ("endings",)),
                            (Sure, ("endings",)), (Unsure, ("cases", "heap", "lot"))):
            self.assertIn("__eq__", vars(kind))
            one = kind(*[kept for _ in names])
            for name in names:
                self.assertIs(getattr(one, name), kept)
            self.assertTrue(one == kind(**{name: kept for name in names}))
            self.assertFalse(one != kind(*[["x"] for _ in names]))
            for at in range(len(names)):
                other = kind(*[["y"] if k == at else kept for k in range(len(names))])
                self.assertFalse(one == other)
            self.assertFalse(one == kept)
            for another, more in ((Whole, 1), (Sure, 1), (Growing, 1), (Stuck, 3), (Unsure, 3), (Wide, 2)):
                if another is not kind:
                    self.assertFalse(one == another(*[kept] * more))


if __name__ == "__main__":
    unittest.main()
