"""[46] to [49]: plans put together."""

import unittest

from caseshome.court import Whole, verdict, whole_or_not
from caseshome.errors import NoName, Refused
from caseshome.joining import (again, behind, behind_heaps, beside, beside_heaps, either, either_heaps, inside,
                               known_whole)
from caseshome.lists import least_heaps
from caseshome.plans import Plan, names_of, renamed
from caseshome.plantext import plan_text, read_plan
from tests.helpers import Case, generator, heap, plan_of, random_plan
from tests.search import GROWING, STUCK, WHOLE, whole_plan

ONE = read_plan("start s\nend q\nstep one: s -> 2 q")
OTHER = read_plan("start r\nend e\nstep two: 2 r -> e")
LINE = plan_of("t: a -> b", "a", "b")
LINES = plan_of("u: c -> d", "c", "d")
LEFT = plan_of("ga: a -> m\nha: m -> b\nka: 2 m -> m, b", "a", "b", ("spare",))
RIGHT = plan_of("gc: c -> 2 n\nhc: 2 n -> d", "c", "d")
# Behind one that makes two of one paper a plan that makes one of two, and the other way.
DOUBLES, HALVES = plan_of("t: a -> 2 b", "a", "b"), plan_of("u: 2 c -> d", "c", "d")

# Names that nothing above has.
NEW = ("zza", "zzb", "zzc", "zzd")


def apart(plan, more="x"):
    """The plan with other names of places and steps, each with a sign more."""
    moved = renamed(plan, [(place, place[:7] + more) for place in plan.places])
    steps = sorted((name[:7] + more, take, lay) for name, take, lay in moved.steps)
    return Plan(moved.places, tuple(steps), moved.start, moved.end)


class Joined(Case):
    def test_examples(self):
        whole = behind(ONE, OTHER)
        self.exact((plan_text(whole), whole_or_not(ONE, 100), whole_or_not(OTHER, 100), whole_or_not(whole, 100)),
                   ("start s\nend e\nstep one: s -> 2 q\nstep two: 2 q -> e", False, False, True))
        one, other = read_plan("start a\nend b\nstep t: a -> b"), read_plan("start c\nend d\nstep u: c -> d")
        self.exact(beside_heaps(one, other, "fork", "join", "s", "e"),
                   ((1, (("a", 1), ("c", 1))), (1, (("a", 1), ("d", 1))), (1, (("b", 1), ("c", 1))), (1, (("b", 1), ("d", 1))),
                    (1, (("e", 1),)), (1, (("s", 1),))))

    def test_texts(self):
        self.exact(plan_text(self.unchanged(behind, LEFT, RIGHT)),
                   "start a\nend d\nplace spare\nstep ga: a -> m\nstep gc: b -> 2 n\nstep ha: m -> b\nstep hc: 2 n -> d\n"
                   "step ka: 2 m -> b, m")
        self.exact(plan_text(self.unchanged(either, LEFT, RIGHT)),
                   "start a\nend b\nplace spare\nstep ga: a -> m\nstep gc: a -> 2 n\nstep ha: m -> b\nstep hc: 2 n -> b\n"
                   "step ka: 2 m -> b, m")
        self.exact(plan_text(self.unchanged(beside, LEFT, RIGHT, "h", "f", "z", "aa")),
                   "start z\nend aa\nplace spare\nstep f: b, d -> aa\nstep ga: a -> m\nstep gc: c -> 2 n\nstep h: z -> a, c\n"
                   "step ha: m -> b\nstep hc: 2 n -> d\nstep ka: 2 m -> b, m")
        self.exact(plan_text(self.unchanged(inside, LEFT, "ka", "x", "b", RIGHT)),
                   "start a\nend b\nplace spare\nstep b: d -> b, m\nstep ga: a -> m\nstep gc: c -> 2 n\nstep ha: m -> b\n"
                   "step hc: 2 n -> d\nstep x: 2 m -> c")
        self.exact(plan_text(self.unchanged(again, RIGHT, "a", "z", "ga", "k", "b")),
                   "start k\nend b\nstep a: k -> c\nstep ga: d -> b\nstep gc: c -> 2 n\nstep hc: 2 n -> d\nstep z: d -> c")

    def test_starts_and_ends(self):
        bare, spare = Plan(("a", "b"), (), "b", "a"), Plan(("c", "d", "x"), (), "d", "c")
        for plan, start, end, places in ((behind(bare, spare), "b", "c", ("a", "b", "c", "x")),
                                         (behind(spare, bare), "d", "a", ("a", "c", "d", "x")),
                                         (either(bare, spare), "b", "a", ("a", "b", "x")),
                                         (beside(bare, spare, "f", "j", "s", "e"), "s", "e", ("a", "b", "c", "d", "e", "s", "x")),
                                         (again(spare, "f", "g", "h", "s", "e"), "s", "e", ("c", "d", "e", "s", "x"))):
            self.exact((plan.start, plan.end, plan.places), (start, end, places))

    def test_the_first_and_the_last_step_may_be_replaced(self):
        self.exact(plan_text(inside(LINE, "t", "f", "g", LINES)), "start a\nend b\nstep f: a -> c\nstep g: d -> b\nstep u: c -> d")
        steps = inside(plan_of("t: 2 a, m -> 3 b, m", "a", "b"), "t", "f", "g", LINES).steps
        self.exact(steps, (("f", heap(a=2, m=1), heap(c=1)), ("g", heap(d=1), heap(b=3, m=1)), ("u", heap(c=1), heap(d=1))))

    def test_names_in_use(self):
        place, step = plan_of("u: a -> d", "a", "d"), plan_of("t: c -> d", "c", "d")
        for function, rest in ((behind, ()), (either, ()), (beside, ("f", "j", "s", "e")), (behind_heaps, ()), (either_heaps, ()),
                               (beside_heaps, ("f", "j", "s", "e"))):
            for other in (place, step, plan_of("u: c -> b", "c", "b"), plan_of("u: c -> d\nv: b -> d", "c", "d"),
                          plan_of("u: c -> d", "c", "d", ("a",)), plan_of("u: b -> d", "b", "d"), LINE):
                self.refused(Refused, {"word": "names"}, function, LINE, other, *rest)
                self.refused(Refused, {"word": "names"}, function, other, LINE, *rest)
        # A place and a step may have one name.
        self.exact(plan_text(behind(plan_of("c: a -> b", "a", "b"), plan_of("a: c -> d", "c", "d"))),
                   "start a\nend d\nstep a: b -> d\nstep c: a -> b")

    def test_further_names_of_beside(self):
        for function in (beside, beside_heaps):
            for names in (("t", "j", "s", "e"), ("f", "t", "s", "e"), ("u", "j", "s", "e"), ("f", "u", "s", "e"), ("f", "f", "s", "e"),
                          ("f", "j", "s", "s"), ("f", "j", "a", "e"), ("f", "j", "s", "a"), ("f", "j", "b", "e"), ("f", "j", "s", "d"),
                          ("f", "j", "c", "e")):
                self.refused(Refused, {"word": "names"}, function, LINE, LINES, *names)
            function(LINE, LINES, "s", "e", "s", "e")
            function(LINE, LINES, "a", "b", "t", "u")

    def test_further_names_of_inside_and_again(self):
        for names in (("t", "g"), ("f", "t"), ("u", "g"), ("f", "u"), ("f", "f"), ("t", "t")):
            self.refused(Refused, {"word": "names"}, inside, LINE, "t", *names, LINES)
        self.refused(Refused, {"word": "names"}, inside, LEFT, "ga", "ha", "x", RIGHT)
        self.refused(Refused, {"word": "names"}, inside, LINE, "t", "f", "g", plan_of("u: a -> d", "a", "d"))
        self.refused(Refused, {"word": "names"}, inside, LINE, "t", "f", "g", plan_of("t: c -> d", "c", "d"))
        self.refused(Refused, {"word": "names"}, inside, LINE, "t", "f", "g", LINE)
        inside(LINE, "t", "a", "b", LINES)
        for names in (("t", "y", "z", "s", "e"), ("x", "t", "z", "s", "e"), ("x", "y", "t", "s", "e"), ("x", "x", "z", "s", "e"),
                      ("x", "y", "x", "s", "e"), ("x", "y", "y", "s", "e"), ("x", "y", "z", "a", "e"), ("x", "y", "z", "s", "b"),
                      ("x", "y", "z", "s", "s"), ("x", "y", "z", "b", "e")):
            self.refused(Refused, {"word": "names"}, again, LINE, *names)
        again(LINE, "a", "b", "s", "s", "e")

    def test_no_step_ahead_of_names(self):
        self.refused(NoName, {"name": "nn"}, inside, LINE, "nn", "t", "t", LINE)
        self.refused(NoName, {"name": "u"}, inside, LINE, "u", "f", "g", LINES)

    def test_of_any_plans(self):
        rng = generator(130)
        for _ in range(80):
            one, other = random_plan(rng, 4, 4), apart(random_plan(rng, 4, 4))
            plan = self.unchanged(behind, one, other)
            self.exact(len(plan.places), len(one.places) + len(other.places) - 1)
            self.exact(names_of(plan), tuple(sorted(names_of(one) + names_of(other))))
            plan = self.unchanged(either, one, other)
            self.exact(len(plan.places), len(one.places) + len(other.places) - 2)
            self.exact((plan.start, plan.end), (one.start, one.end))
            self.exact([step for step in plan.steps if step[0] in names_of(one)], list(one.steps))
            plan = self.unchanged(beside, one, other, "fork", "join", "start", "end")
            self.exact([step for step in plan.steps if step[0] not in ("fork", "join")],
                       sorted(one.steps + other.steps))
            step = rng.choice(one.steps)
            plan = self.unchanged(inside, one, step[0], "enter", "leave", other)
            self.exact(dict((name, (take, lay)) for name, take, lay in plan.steps)["enter"], (step[1], ((other.start, 1),)))
            self.exact(dict((name, (take, lay)) for name, take, lay in plan.steps)["leave"], (((other.end, 1),), step[2]))
            self.exact((len(plan.steps), plan.start, plan.end), (len(one.steps) + len(other.steps) + 1, one.start, one.end))


class WholeTogether(Case):
    def test_known_whole(self):
        kinds = (True, False, None)
        told = {"behind": {(True, True): True, (True, False): False, (False, True): False},
                "either": {(True, True): True},
                "beside": {(True, True): True, **{(one, other): False for one in kinds for other in kinds if False in (one, other)}},
                "inside": {(one, True): one for one in kinds},
                "again": {(one, other): one for one in kinds for other in kinds}}
        for word, answers in told.items():
            for one in kinds:
                for other in kinds:
                    self.exact(known_whole(word, one, other), answers.get((one, other)))

    def put_together(self, one, other):
        yield "behind", behind(one, other)
        yield "either", either(one, other)
        yield "beside", beside(one, other, *NEW)
        yield "again", again(one, "zza", "zzb", "zzc", "zzd", "zze")
        for name in names_of(one):
            yield "inside", inside(one, name, "zza", "zzb", other)

    def test_what_is_known_is_so(self):
        rng = generator(131)
        counts = {}
        plans = [plan_of(text) for text in WHOLE[:8] + STUCK]
        for _ in range(60):
            one, other = rng.choice(plans), apart(rng.choice(plans))
            answers = whole_or_not(one, 4000), whole_or_not(other, 4000)
            for word, plan in self.put_together(one, other):
                known = known_whole(word, *answers)
                if known is not None and len(plan.places) <= 9:
                    self.assertIs(whole_or_not(plan, 4000), known)
                    counts[word, known] = counts.get((word, known), 0) + 1
        for word in ("behind", "beside", "inside", "again"):
            self.assertGreater(min(counts[word, True], counts[word, False]), 3)
        self.assertGreater(counts["either", True], 3)

    def test_not_without_the_conditions(self):
        self.exact([whole_or_not(plan, 99) for plan in (DOUBLES, HALVES, behind(DOUBLES, HALVES))], [False, False, True])
        two = plan_of("t: 2 a -> 2 b", "a", "b")
        self.exact([whole_or_not(plan, 99) for plan in (two, LINES, either(two, LINES))], [False, True, True])


class Heaps(Case):
    def test_against_the_plans(self):
        rng = generator(132)
        more = 0
        for _ in range(120):
            one, other = whole_plan(rng, 1), apart(whole_plan(rng, 1))
            self.exact(self.unchanged(behind_heaps, one, other), least_heaps(behind(one, other)))
            self.exact(self.unchanged(either_heaps, one, other), least_heaps(either(one, other)))
            if len(one.places) + len(other.places) <= 8:
                found = self.unchanged(beside_heaps, one, other, *NEW)
                self.tuples_within(found)
                self.exact(found, least_heaps(beside(one, other, *NEW)))
                more += max(cases for cases, _ in found) > 1
        self.assertGreater(more, 5)

    def test_more_cases(self):
        two = plan_of("f: 2 s -> 2 a\ng: 2 a -> 2 e\nh: s -> e")
        three = apart(plan_of("a: 3 s -> 3 b\nc: 3 b -> 3 e\nd: s -> e"))
        for one, other in ((two, three), (three, two), (two, apart(two)), (LINE, three), (two, LINES)):
            found = beside_heaps(one, other, *NEW)
            self.exact(found, least_heaps(beside(one, other, *NEW)))
        found = beside_heaps(two, three, *NEW)
        self.assertIn((3, heap(a=2, s=1, bx=3)), found)
        self.assertNotIn((2, heap(a=2, bx=2)), found)
        self.assertIn((6, heap(a=6, bx=6)), found)
        self.assertNotIn((3, heap(a=2, e=1, sx=3)), found)

    def test_each_once(self):
        self.exact(behind_heaps(LINE, LINES), ((1, heap(a=1)), (1, heap(b=1)), (1, heap(d=1))))
        self.exact(either_heaps(LINE, LINES), ((1, heap(a=1)), (1, heap(b=1))))

    def test_no_weights_behind_names(self):
        grows = apart(plan_of(GROWING[0]))
        for one, other in ((grows, LINE), (LINE, grows)):
            self.refused(Refused, {"word": "weights"}, behind_heaps, one, other)
            self.refused(Refused, {"word": "weights"}, either_heaps, one, other)
            self.refused(Refused, {"word": "weights"}, beside_heaps, one, other, *NEW)
            self.refused(Refused, {"word": "names"}, beside_heaps, one, other, "fork", "fork", "start", "end")
        self.refused(Refused, {"word": "names"}, behind_heaps, grows, grows)

    def test_greatest(self):
        one = plan_of("f: s -> a\ng: a -> b\nh: b -> e")
        other = apart(plan_of("k: s -> a\nl: a -> b\nm: b -> c\no: c -> d\np: d -> e"))
        for _ in range(20):
            found = beside_heaps(one, other, *NEW)
            self.exact(len(found), 4 * 6 + 2)
        self.exact(found, least_heaps(beside(one, other, *NEW)))
        self.assertTrue(isinstance(verdict(beside(one, other, *NEW), 4000), Whole))
        nines = apart(plan_of("f: 9 s -> 9 a\ng: 9 a -> 9 e\nh: s -> e"))
        for _ in range(20):
            found = beside_heaps(LINE, nines, *NEW)
            self.exact((len(found), found[-1]), (4 + 10 + 2, (9, heap(ax=9, b=9))))
        self.exact(found, least_heaps(beside(LINE, nines, *NEW)))


if __name__ == "__main__":
    unittest.main()
