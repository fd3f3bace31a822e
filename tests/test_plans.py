"""[7] and [8]: plans."""

import unittest

from caseshome.errors import InvalidPlan, NoName, Refused
from caseshome.plans import (Plan, names_of, only_steps, renamed, step_change, step_of, with_places, with_step,
                             without_steps)
from tests.helpers import (LETTERS, ODD, Case, as_heap, change_by_hand, generator, great_plan, nested, plan_of,
                           random_plan)

PLACES = ("a", "b", "c", "d")
STEP = ("m", (("a", 2),), (("b", 3), ("c", 1)))
LATER = ("n", (("b", 1), ("c", 9)), (("d", 1),))


def parts(plan):
    return plan.places, plan.steps, plan.start, plan.end


class Judged(Case):
    """Plan takes any values."""

    def wrong(self, word, at, places=PLACES, steps=(STEP,), start="a", end="d"):
        attributes = {"word": word, "at": at}
        self.refused(InvalidPlan, attributes, Plan, places, steps, start, end)
        self.refused(InvalidPlan, attributes, Plan, steps=steps, end=end, places=places, start=start)

    def wrong_step(self, step):
        self.wrong("steps", 0, steps=(step,))
        self.wrong("steps", 1, steps=(STEP, step))
        self.wrong("steps", 1, steps=(("k", (("a", 1),), (("d", 1),)), step, LATER))

    def test_attributes(self):
        plan = Plan(PLACES, (STEP, LATER), "a", "d")
        self.exact(parts(plan), (PLACES, (STEP, LATER), "a", "d"))
        named = Plan(end="d", start="a", steps=(STEP, LATER), places=PLACES)
        self.exact(parts(named), parts(plan))
        self.tuples_within(parts(plan))

    def test_least_and_greatest(self):
        self.exact(parts(Plan(("a", "b"), (), "b", "a")), (("a", "b"), (), "b", "a"))
        great = great_plan()
        self.exact((len(great.places), len(great.steps)), (12, 14))
        full = tuple((place, 9) for place in PLACES)
        self.exact(Plan(PLACES, (("all", full[:3], full[1:]),), "a", "d").steps, (("all", full[:3], full[1:]),))

    def test_places(self):
        for places in (None, True, 3, "ab", [], ["a", "b", "c", "d"], list(PLACES)):
            self.wrong("places", -1, places=places)
        for name in ("", "A", "a1", "abcdefghi", " ", 1, None, True, ("b",), ["b"]):
            self.wrong("places", 0, places=(name,))
            self.wrong("places", 1, places=("a", name, "c", "d"))
        self.wrong("places", 1, places=("a", "a", "c", "d"))
        self.wrong("places", 2, places=("a", "c", "b", "d"))
        self.wrong("places", 1, places=("b", "a", "a", None))
        self.wrong("places", 0, places=(None, None))

    def test_start(self):
        for start in (None, True, 0, "", "e", "A", [], ["a"], ("a",), (), Plan(("a", "b"), (), "a", "b"), "aa"):
            self.wrong("start", -1, start=start)
        self.wrong("start", -1, places=(), steps=())

    def test_end(self):
        for end in (None, True, 0, "", "e", "A", [], ["d"], ("d",), (), "a", Plan(("a", "b"), (), "a", "b")):
            self.wrong("end", -1, end=end)
        self.wrong("end", -1, places=("a",), steps=())

    def test_steps_no_tuple(self):
        for steps in (None, True, 1, "", "m", [], [STEP]):
            self.wrong("steps", -1, steps=steps)

    def test_no_triple(self):
        for step in (None, True, 1, "", "mno", (), ("n",), STEP[:2], ("n", *STEP[1:], ()), ["n", *STEP[1:]],
                     (STEP,), ((("n", *STEP[1:]),),)):
            self.wrong_step(step)

    def test_name_of_a_step(self):
        for name in ("", "M", "m1", "mmmmmmmmm", 1, None, True, ("n",), ["n"]):
            self.wrong_step((name, *STEP[1:]))
        self.wrong("steps", 1, steps=(STEP, STEP))
        self.wrong("steps", 1, steps=(LATER, STEP))
        self.wrong("steps", 2, steps=(STEP, LATER, ("mm", *STEP[1:])))

    def test_heaps_of_a_step(self):
        right, left = (("b", 1),), (("a", 1),)
        for papers in (None, True, 1, "", "b", (), [], [("b", 1)], (["b", 1],), (("b", 0),), (("b", -1),), (("b", True),),
                       (("b", "1"),), (("b", 10),), (("b", 10 ** 12),), (("e", 1),), (("aa", 1),), (("b", 1), ("b", 1)),
                       (("c", 1), ("b", 1)), (("B", 1),), (("b", 1, 1),), (("b",),), ("b", 1)):
            self.wrong_step(("n", papers, right))
            self.wrong_step(("n", left, papers))
        self.wrong_step(("n", (("a", 1), ("d", 1)), right))
        self.wrong_step(("n", (("d", 1),), right))
        self.wrong_step(("n", left, (("a", 1),)))
        self.wrong_step(("n", left, (("a", 1), ("b", 1))))

    def test_what_may_be(self):
        for step in (("n", (("a", 1), ("b", 9)), (("b", 9), ("d", 1))), ("n", (("b", 1),), (("b", 1),)),
                     ("n", (("a", 1),), (("d", 1),)), ("a", (("c", 9),), (("c", 8),))):
            self.exact(Plan(PLACES, (step,), "a", "d").steps, (step,))

    def test_the_order_of_errors(self):
        self.wrong("places", -1, places=None, steps=None, start=None, end=None)
        self.wrong("places", 1, places=("a", None), steps=None, start=None, end=None)
        self.wrong("start", -1, steps=None, start=None, end=None)
        self.wrong("start", -1, steps=None, start="e", end="e")
        self.wrong("end", -1, steps=None, start="a", end=None)
        self.wrong("end", -1, steps=(None,), start="a", end="a")
        self.wrong("steps", 0, steps=(None, STEP, STEP))
        self.wrong("steps", 1, steps=(STEP, STEP, None))
        self.wrong("steps", 1, steps=(STEP, None, STEP))

    def test_any_values(self):
        for value in ODD + (nested(80),):
            for at, word in enumerate(("places", "steps", "start", "end")):
                values = [PLACES, (STEP,), "a", "d"]
                values[at] = value
                try:
                    self.exact(parts(Plan(*values)), tuple(values))
                except InvalidPlan as error:
                    self.assertIn(error.word, (word, "start", "end") if word == "places" else (word,))


class Equality(Case):
    def test_equal_exactly_if_all_four_are(self):
        plan = Plan(PLACES, (STEP,), "a", "d")
        self.assertTrue(plan == Plan(tuple(list(PLACES)), (("m", (("a", 2),), (("b", 3), ("c", 1))),), "a", "d"))
        self.assertFalse(plan != Plan(PLACES, (STEP,), "a", "d"))
        bare = Plan(PLACES, (), "a", "d")
        for other in (Plan(PLACES, (), "b", "d"), Plan(PLACES, (), "a", "c"), Plan(PLACES, (), "d", "a"),
                      Plan(PLACES + ("e",), (), "a", "d"), Plan(PLACES, (LATER,), "a", "d")):
            self.assertFalse(bare == other)
            self.assertTrue(bare != other)

    def test_equal_to_nothing_else(self):
        plan = Plan(("a", "b"), (), "a", "b")
        for other in ODD[:-3] + (parts(plan), list(parts(plan)), "start a\nend b", InvalidPlan("places", -1)):
            self.assertFalse(plan == other)
            self.assertFalse(other == plan)
            self.assertTrue(plan != other)

    def test_neither_iterable_nor_long(self):
        plan = Plan(("a", "b"), (), "a", "b")
        with self.assertRaises(TypeError):
            iter(plan)
        with self.assertRaises(TypeError):
            len(plan)


class Steps(Case):
    def setUp(self):
        self.plan = Plan(PLACES, (("f", (("a", 1),), (("b", 2),)), ("g", (("b", 3), ("c", 1)), (("b", 1), ("c", 4))),
                                  ("h", (("b", 2), ("c", 1)), (("d", 9),))), "a", "d")

    def test_step_of(self):
        for step in self.plan.steps:
            self.exact(step_of(self.plan, step[0]), step)
        for name in ("", "a", "ff", "F", "e"):
            self.refused(NoName, {"name": name}, step_of, self.plan, name)
            self.refused(NoName, {"name": name}, step_change, self.plan, name)
        self.refused(NoName, {"name": "f"}, step_of, Plan(("a", "b"), (), "a", "b"), "f")

    def test_step_change(self):
        self.exact([step_change(self.plan, name) for name in "fgh"],
                   [(("a", -1), ("b", 2)), (("b", -2), ("c", 3)), (("b", -2), ("c", -1), ("d", 9))])
        same = plan_of("t: 2 a -> 2 a, e\nu: a, b -> a, b")
        self.exact((step_change(same, "t"), step_change(same, "u")), ((("e", 1),), ()))
        rng = generator(3)
        for _ in range(100):
            plan = random_plan(rng)
            for step in plan.steps:
                self.exact(step_change(plan, step[0]), as_heap(change_by_hand(step)))

    def test_names_of(self):
        self.exact((names_of(self.plan), names_of(Plan(("a", "b"), (), "a", "b"))), (("f", "g", "h"), ()))
        self.exact(len(names_of(great_plan())), 14)

    def test_with_step(self):
        f, g, h = self.plan.steps
        for missing in (f, g, h):
            plan = Plan(PLACES, tuple(step for step in (f, g, h) if step != missing), "a", "d")
            self.exact(parts(self.unchanged(with_step, plan, missing)), parts(self.plan))
            self.exact(parts(with_step(triple=missing, plan=plan)), parts(self.plan))
        self.exact(parts(with_step(Plan(PLACES, (), "b", "a"), ("x", (("b", 1),), (("a", 1),)))),
                   (PLACES, (("x", (("b", 1),), (("a", 1),)),), "b", "a"))

    def test_with_step_refuses(self):
        one = (("b", 1),)
        for name in "fgh":
            for take, lay in ((one, one), ((), ()), ((("e", 1),), one), ((("d", 1),), one)):
                self.refused(Refused, {"word": "used"}, with_step, self.plan, (name, take, lay))
        for name, at in (("a", 0), ("fa", 1), ("gz", 2), ("z", 3)):
            for take, lay in (((), one), (one, ()), ((("e", 1),), one), (one, (("e", 1),)), ((("d", 1),), one),
                              (one, (("a", 1),)), ((("b", 10),), one), (one, (("c", 10),))):
                self.refused(InvalidPlan, {"word": "steps", "at": at}, with_step, self.plan, (name, take, lay))

    def test_without_and_only(self):
        for names in ((), ("f",), ("h", "f"), ("g", "g"), ("h", "g", "f")):
            kept = tuple(step for step in self.plan.steps if step[0] not in names)
            gone = tuple(step for step in self.plan.steps if step[0] in names)
            for sort in (list, tuple):
                self.exact(parts(self.unchanged(without_steps, self.plan, sort(names))), (PLACES, kept, "a", "d"))
                self.exact(parts(self.unchanged(only_steps, self.plan, sort(names))), (PLACES, gone, "a", "d"))
        for function in (without_steps, only_steps):
            for names, name in ((("x",), "x"), (("f", "y", "x"), "y"), (["", "f"], ""), (("a",), "a")):
                self.refused(NoName, {"name": name}, function, self.plan, names)

    def test_with_places(self):
        for sort in (list, tuple):
            plan = self.unchanged(with_places, self.plan, sort(["z", "a", "bb", "z", "d"]))
            self.exact(parts(plan), (("a", "b", "bb", "c", "d", "z"), self.plan.steps, "a", "d"))
            self.exact(parts(with_places(self.plan, sort([]))), parts(self.plan))
            self.exact(parts(with_places(self.plan, sort(["b", "b"]))), parts(self.plan))


class Renamed(Case):
    def test_example(self):
        plan = Plan(("a", "b", "c"), (("t", (("a", 1), ("b", 2)), (("c", 1),)),), "a", "c")
        self.exact(parts(renamed(plan, [("a", "b"), ("b", "a")])),
                   (("a", "b", "c"), (("t", (("a", 2), ("b", 1)), (("c", 1),)),), "b", "c"))

    def test_order_within(self):
        plan = Plan(PLACES, (("t", (("a", 1), ("b", 2)), (("b", 4), ("c", 3), ("d", 9))),), "a", "d")
        for sort in (list, tuple):
            other = self.unchanged(renamed, plan, sort([("b", "z"), ("d", "aa")]))
            self.exact(parts(other), (("a", "aa", "c", "z"), (("t", (("a", 1), ("z", 2)), (("aa", 9), ("c", 3), ("z", 4))),),
                                      "a", "aa"))
            self.exact(parts(renamed(plan, sort([]))), parts(plan))
            self.exact(parts(renamed(plan, sort([("b", "b"), ("c", "c")]))), parts(plan))

    def test_used(self):
        plan = plan_of("t: s -> b\nu: b -> e", places=("x",))
        for pairs in ([("b", "s")], [("b", "x")], [("s", "e")], [("b", "q"), ("s", "q")], [("x", "b")]):
            self.refused(Refused, {"word": "used"}, renamed, plan, pairs)
        self.exact(renamed(plan, [("b", "x"), ("x", "b")]).places, ("b", "e", "s", "x"))
        self.exact(renamed(plan, [("b", "x"), ("x", "y")]).places, ("e", "s", "x", "y"))

    def test_there_and_back(self):
        rng = generator(4)
        for _ in range(100):
            plan = random_plan(rng)
            names = rng.sample(LETTERS, len(plan.places))
            other = renamed(plan, list(zip(plan.places, names)))
            self.exact(other.places, tuple(sorted(names)))
            table = dict(zip(plan.places, names))
            self.exact((other.start, other.end, names_of(other)), (table[plan.start], table[plan.end], names_of(plan)))
            for one, two in zip(plan.steps, other.steps):
                self.exact(two[1:], tuple(tuple(sorted((table[place], number) for place, number in heap))
                                          for heap in one[1:]))
            self.exact(parts(renamed(other, list(zip(names, plan.places)))), parts(plan))

    def test_later_changes_have_no_effect(self):
        plan = plan_of("t: s -> b\nu: b -> e")
        names = ["t"]
        found = only_steps(plan, names), without_steps(plan, names), with_places(plan, names)
        names.append("u")
        self.exact([names_of(other) for other in found], [("t",), ("u",), ("t", "u")])
        self.exact(found[2].places, ("b", "e", "s", "t"))


if __name__ == "__main__":
    unittest.main()
