"""[77] and [78]: sheets."""

import unittest

from caseshome.closure import live_steps, rousing
from caseshome.court import Growing, Stuck, Unsure, Whole, sure, verdict
from caseshome.editions import Edition, NoEdition, edition
from caseshome.errors import CaseError, InvalidSize
from caseshome.lattice import barred, belongs, made_by
from caseshome.lending import near
from caseshome.lists import least_heaps, least_lists, width_of
from caseshome.plans import Plan, names_of
from caseshome.plantext import read_plan
from caseshome.prices import least_mean
from caseshome.questions import never_below
from caseshome.sheets import sheet_for, sheet_holds, words
from caseshome.walks import Led, Lost, led
from caseshome.weights import kept_weights, of_nothing
from tests.handsheets import LOOKS, changed, holds_by_hand, question_of
from tests.helpers import ODD, Case, generator, heap, nested, plan_of
from tests.search import GROWING, STUCK, WHOLE, whole_plan

ONE = read_plan("start s\nend e\nstep t: s -> e")
LINE = plan_of("go: s -> a\nstop: a -> e")
FORK = plan_of("f: s -> 2 a\nj: 2 a -> e")
GROWS = plan_of("t: s -> a\nu: a -> 2 a\nv: a -> e")
LOST = plan_of("t: 2 s -> 2 e")
PACK = plan_of("go: s -> a\nhome: a -> e\npack: 7 a -> 7 e")
LEND = plan_of("go: s -> a\nhome: a -> e\nlate: z -> e\nlend: a, s -> e, z")
OVER = (("a", heap(s=1)), ("e", heap(e=1)), ("s", heap(s=1)))

ONE_LISTS = (((-1,), (1,)), ((0, -1), (0, 1), (1, 0)), ((0, 1, 1), (1, 0, 1)))
ONE_WHOLE = (least_lists(ONE), (("e", 1), ("s", 1)), ((), ("t",)))
LINE_WHOLE = (least_lists(LINE), (("a", 2), ("e", 2), ("s", 2)), (("stop",), (), ("go", "stop")))

# Right sheets made by hand: also those that no function of the program makes.
RIGHT = (
    ("live", ONE, (2, (("t", 1),))),
    ("live", ONE, (7, (("t", 1), ("t", 2)))),
    ("live", LINE, (3, (("go", 1), ("go", 1), ("stop", 1)))),
    ("live", plan_of("z: y -> e"), (1, ())),
    ("weights", ONE, (("e", 5), ("s", 5))),
    ("weights", FORK, (("a", 1), ("e", 2), ("s", 2))),
    ("weights", FORK, (("a", 3), ("e", 6), ("s", 6))),
    ("nothing", GROWS, (("u", 1),)),
    ("nothing", GROWS, (("u", 10 ** 30),)),
    ("nothing", plan_of("t: s -> 2 e\nu: s -> e"), (("t", 1), ("u", -1))),
    ("in", (ONE, 0, ()), ()),
    ("in", (LINE, 2, heap(a=1, e=1)), (("go", 2), ("stop", 1))),
    ("in", (plan_of("t: s -> a\nu: s -> a\nv: a -> e"), 1, heap(a=1)), (("t", 3), ("u", -2))),
    ("out", (FORK, 1, heap(a=1)), ((("a", (1, 2)), ("e", (0, 1)), ("s", (0, 1))), (0, 1))),
    ("out", (FORK, 1, heap(a=1)), ((("a", (-3, 2)), ("e", (7, 1)), ("s", (4, 1))), (5, 1))),
    ("out", (ONE, 0, heap(e=1)), ((("e", (1, 3)), ("s", (1, 3))), (2, 3))),
    ("lists", ONE, ONE_LISTS),
    ("lists", ONE, (((-2,), (-1,), (1,), (5,)), ((0, -1), (0, 1), (1, -1), (1, 0)), ((0, 1, 1), (1, 0, 1), (1, 1, 2)))),
    ("whole", ONE, ONE_WHOLE),
    ("whole", ONE, (ONE_LISTS, (("e", 9), ("s", 9)), ((), ("t",)))),
    ("whole", ONE, (ONE_LISTS[:2] + (((0, 1, 1), (1, 0, 1), (1, 1, 2), (2, 0, 2)),), (("e", 1), ("s", 1)), ((), ("t",)))),
    ("whole", LINE, LINE_WHOLE),
    ("stuck", LOST, (1, heap(s=1), (), (heap(s=1),))),
    ("stuck", LOST, (3, heap(e=2, s=1), (("t", 1),), (heap(e=2, s=1), heap(s=1)))),
    ("stuck", LOST, (3, heap(s=3), (), (heap(e=2, s=1), heap(s=3)))),
    ("led", (ONE, ("t",), 2, heap(s=2)), ("t", "t")),
    ("led", (ONE, ("t",), 2, heap(s=2)), (("t", 2),)),
    ("led", (LINE, ("go", "stop"), 3, heap(a=1, s=2)), (("stop", 1), ("go", 2), ("stop", 2))),
    ("led", (LINE, (), 2, heap(e=2)), ()),
    ("led", (GROWS, ("t", "u", "v"), 2, heap(s=1)), ("t", "u", "v", "v")),
    ("lost", (LINE, ("go",), 1, heap(s=1)), (heap(a=1), heap(s=1))),
    ("lost", (LINE, ("go",), 1, heap(s=1)), (heap(a=1), heap(a=2), heap(s=1))),
    ("lost", (LINE, (), 1, ()), ((),)),
    ("sure", (LINE, ("go", "stop")), (LINE_WHOLE, (("stop",), (), ("go", "stop")))),
    ("sure", (PACK, ("go", "home")), ((least_lists(PACK), (("a", 1), ("e", 1), ("s", 1)), (("home",), (), ("go", "home"))),
                                      (("home",), (), ("go", "home")))),
    ("edition", (LINE, ONE, OVER), (ONE_WHOLE, (("", ()), ("go", ()), ("stop", (("t", 1),))))),
    ("edition", (LINE, LINE, (("a", heap(a=1)), ("e", heap(e=1)), ("s", heap(s=1)))), (LINE_WHOLE, (("", ()), ("go", (("go", 1),)), ("stop", (("stop", 1),))))),
    ("no edition", (LINE, ONE, (("a", heap(s=2)), ("e", heap(e=1)), ("s", heap(s=1)))), ("go", ((("e", (1, 2)), ("s", (1, 2))), (1, 2)))),
    ("no edition", (LINE, ONE, (("a", heap(s=2)), ("e", heap(e=1)), ("s", heap(s=1)))), ("stop", ((("e", (1, 3)), ("s", (1, 3))), (-1, 3)))),
    ("no edition", (ONE, LOST, (("e", heap(e=1)), ("s", heap(e=1)))), ("", ((("e", (1, 2)), ("s", (0, 1))), (0, 1)))),
    ("never", (ONE, ((("s", 0),), 0)), ONE_WHOLE),
    ("never", (LINE, ((("a", -1), ("s", 3)), 1)), LINE_WHOLE),
    ("below", (LINE, ((("a", -2), ("s", 3)), 1)), (1, heap(a=1), (("go", 1),))),
    ("below", (LINE, ((("a", -2), ("s", 3)), 1)), (5, heap(a=4, e=1), (("go", 5), ("stop", 1)))),
    ("below", (GROWS, ((("a", -1), ("s", 0)), 0)), (0, heap(a=1), (("u", 1),))),
    ("mean", (PACK, (("go", 2), ("home", 3), ("pack", 7))), ((3, 1), ((1, 1), (0, 1), (1, 7)), ((2, 1), (3, 1), (0, 1)))),
    ("mean", (PACK, (("go", 2), ("home", 3), ("pack", 7))), ((3, 1), ((1, 1), (0, 1), (1, 7)), ((5, 2), (7, 2), (1, 2)))),
    ("near", (LEND, 1, heap(z=1)), (1, (("go", 1), ("lend", 1)))),
    ("near", (LINE, 2, heap(a=1, s=1)), (0, (("go", 1),))),
    ("near", (LINE, 2, heap(a=1, s=1)), (3, (("go", 4), ("stop", 1), ("stop", 2)))),
)


class Holding(Case):
    def test_examples(self):
        question = (ONE, ("t",), 2, (("s", 2),))
        self.exact((sheet_holds(("led", question, ("t", "t"))), sheet_holds(("led", question, (("t", 2),))),
                    sheet_holds(("led", question, ("t",)))), (True, True, False))
        self.exact(words(), ("below", "edition", "in", "led", "lists", "live", "lost", "mean", "near", "never", "no edition", "nothing", "out",
                             "stuck", "sure", "weights", "whole"))

    def test_right_ones(self):
        told = {}
        for sheet in RIGHT:
            self.exact(holds_by_hand(sheet), True)
            self.exact(self.unchanged(sheet_holds, sheet), True)
            told[sheet[0]] = True
        self.exact(tuple(sorted(told)), words())

    def test_one_thing_changed(self):
        counts = {}
        for sheet in RIGHT:
            for other in changed(sheet):
                right = holds_by_hand(other)
                self.exact(sheet_holds(other), right)
                many = counts.setdefault(sheet[0], [0, 0])
                many[right] += 1
        for word in words():
            self.assertGreater(counts[word][0], 30)
        self.assertGreater(sum(right for _, right in counts.values()), 100)

    def test_told_ones_with_one_thing_changed(self):
        rng = generator(260)
        for _ in range(40):
            plan = plan_of(rng.choice(WHOLE + STUCK + GROWING))
            for word, question in questions_of(rng, plan):
                sheet = sheet_for(word, question, 60)
                if sheet is not None:
                    self.exact((sheet_holds(sheet), holds_by_hand(sheet)), (True, True))
                    for other in rng.sample(changed(sheet), 12):
                        self.exact(sheet_holds(other), holds_by_hand(other))

    def test_words_exchanged(self):
        for word, question, paper in RIGHT:
            for other in words() + ("", "edition ", "noedition", "Whole", "belongs", None, 1, ("live",)):
                self.exact(sheet_holds((other, question, paper)), holds_by_hand((other, question, paper)))
            for _, asked, _ in RIGHT:
                self.exact(sheet_holds((word, asked, paper)), holds_by_hand((word, asked, paper)))

    def test_any_values(self):
        values = ODD + (nested(80), Whole(()), Stuck(1, (), ()), Led(()), some_best(), (Whole(()),) * 3, ("live",), ("live", ONE), ("whole", ONE, Whole(())))
        for value in values:
            self.exact(sheet_holds(value), False)
            for word, question, paper in RIGHT:
                self.exact(sheet_holds((word, question, value)), holds_by_hand((word, question, value)))
                self.exact(sheet_holds((word, value, paper)), holds_by_hand((word, value, paper)))
                self.exact(sheet_holds((value, question, paper)), False)
                if isinstance(paper, tuple):
                    for at in range(len(paper)):
                        other = paper[:at] + (value,) + paper[at + 1:]
                        self.exact(sheet_holds((word, question, other)), holds_by_hand((word, question, other)))
                if isinstance(question, tuple):
                    for at in range(len(question)):
                        other = question[:at] + (value,) + question[at + 1:]
                        self.exact(sheet_holds((word, other, paper)), holds_by_hand((word, other, paper)))

    def test_a_carry_that_is_not_living(self):
        new = plan_of("t: s -> e\nz: y -> e")
        whole = (least_lists(new), (("e", 1), ("s", 1), ("y", 1)), ((), ("t",)))
        for at, right in ((heap(s=1), True), (heap(y=1), False)):
            carry = (("a", at), ("e", heap(e=1)), ("s", heap(s=1)))
            self.exact(sheet_holds(("edition", (LINE, new, carry), (whole, (("", ()), ("go", ()), ("stop", (("t", 1),)))))), right)
        bar = ((("e", (1, 2)), ("s", (1, 2)), ("y", (0, 1))), (1, 2))
        for at, right in ((heap(s=2), True), (heap(s=2, y=1), False)):
            carry = (("a", at), ("e", heap(e=1)), ("s", heap(s=1)))
            self.exact(sheet_holds(("no edition", (LINE, new, carry), ("go", bar))), right)

    def test_crews_and_dead_steps(self):
        dead = Plan(("e", "s", "y"), (("t", heap(s=1), heap(e=1)), ("z", heap(y=1), heap(e=1))), "s", "e")
        self.exact(sheet_holds(("led", (dead, ("z",), 1, heap(y=1)), ("z",))), True)
        self.exact(sheet_holds(("led", (dead, ("nn",), 1, heap(s=1)), ())), False)
        self.exact(sheet_holds(("in", (dead, 0, heap(e=1, y=1)), (("z", 1),))), False)
        self.exact(sheet_holds(("live", dead, (2, (("t", 1),)))), True)

    def test_great_numbers(self):
        many = 10 ** 3999
        self.exact(sheet_holds(("led", (LINE, ("go", "stop"), many, heap(s=many)), (("go", many), ("stop", many)))), True)
        self.exact(sheet_holds(("led", (LINE, ("go", "stop"), many, heap(s=many)), (("go", many), ("stop", many - 1)))), False)
        self.exact(sheet_holds(("in", (LINE, many, heap(a=many)), (("go", many),))), True)
        self.exact(sheet_holds(("near", (LINE, 1, heap(a=1)), (many, (("go", many + 1), ("stop", many))))), True)
        self.exact(sheet_holds(("weights", FORK, (("a", many), ("e", 2 * many), ("s", 2 * many)))), True)
        self.exact(sheet_holds(("lost", (LINE, ("go",), many, heap(s=1)), (heap(a=1), heap(s=1)))), True)


def some_best():
    return least_mean(PACK, (("go", 2), ("home", 3), ("pack", 7)), 9)


def questions_of(rng, plan):
    """A right question for each word, by chance."""
    live = live_steps(plan)
    crew = tuple(sorted(rng.sample(names_of(plan), rng.randint(0, len(plan.steps)))))
    papers = tuple(sorted((place, rng.randint(1, 3)) for place in rng.sample(plan.places, rng.randint(0, 2))))
    cases = rng.randint(0, 4)
    costs = tuple((name, rng.randint(0, 5)) for name in names_of(plan))
    asked = (tuple((place, rng.randint(-2, 3)) for place in plan.places if place != plan.end), rng.randint(-1, 2))
    other = plan_of(rng.choice(WHOLE))
    here = [place for place in other.places]
    carry = tuple((place, ((other.end, 1),) if place == plan.end else tuple(sorted((name, rng.randint(1, 2)) for name in rng.sample(here, 1))))
                  for place in plan.places)
    walk = (plan, rng.choice((crew, live)), cases, rng.choice((papers, ((plan.start, cases),) if cases else ())))
    own = {"plan": plan, "pair": (plan, cases, rng.choice((papers, ((plan.start, cases),) if cases else ()))), "walk": walk,
           "crew": (plan, rng.choice((crew, live))), "carry": (plan, other, carry), "worth": (plan, asked), "costs": (plan, costs)}
    return [(word, own[LOOKS[word][0]]) for word in words()]


def told_by_functions(word, question, most):
    """The paper by the functions of [14] to [63], None where they tell something else or refuse."""
    plan = question if isinstance(question, Plan) else question[0]
    rest = () if isinstance(question, Plan) else question[1:]

    def whole(of):
        found = verdict(of, most)
        return (least_lists(of), kept_weights(of), found.endings) if isinstance(found, Whole) else None
    try:
        if word == "live":
            return rousing(plan)
        if word == "weights":
            return kept_weights(plan)
        if word == "nothing":
            return of_nothing(plan)
        if word == "in":
            return made_by(plan, *rest)
        if word == "out":
            return barred(plan, *rest)
        if word == "lists":
            return least_lists(plan)
        if word == "whole":
            return whole(plan)
        if word == "stuck":
            found = verdict(plan, most)
            return (found.cases, found.heap, made_by(plan, found.cases, found.heap), found.lot) if isinstance(found, Stuck) else None
        if word in ("led", "lost"):
            found = led(plan, *rest, most)
            return (found.run if isinstance(found, Led) else None) if word == "led" else (found.lot if isinstance(found, Lost) else None)
        if word == "sure":
            found = sure(plan, *rest, most)
            return None if isinstance(found, Unsure) else (whole(plan), found.endings)
        if word in ("edition", "no edition"):
            found = edition(plan, *rest, most)
            if word == "edition":
                return (whole(rest[0]), found.sums) if isinstance(found, Edition) else None
            return (found.word, found.fractions) if isinstance(found, NoEdition) else None
        if word in ("never", "below"):
            found = never_below(plan, *rest, most)
            if word == "never":
                return whole(plan) if found is None else None
            return None if found is None else (*found, made_by(plan, *found))
        if word == "mean":
            found = least_mean(plan, *rest, most)
            return found.cost, found.takes, found.prices
        return near(plan, *rest, most)
    except CaseError:
        return None


class Making(Case):
    def test_exactly_where_the_functions_tell_it(self):
        rng = generator(261)
        counts = {word: [0, 0] for word in words()}
        for at in range(250):
            plan = whole_plan(rng) if at % 3 == 0 else plan_of(rng.choice(WHOLE + STUCK + GROWING) + rng.choice(("", "", "\nzz: zy -> 2 zy")))
            most = rng.choice((1, 2, 4, 9, 60, 4000))
            for word, question in questions_of(rng, plan):
                found = self.unchanged(sheet_for, word, question, most)
                paper = told_by_functions(word, question, most)
                counts[word][found is not None] += 1
                self.exact(found is None, paper is None)
                if found is not None:
                    self.exact((found[0], len(found), found[1] is question or found[1] == question), (word, 3, True))
                    self.assertTrue(found[2] == paper)
                    self.tuples_within(found[2])
                    self.exact(sheet_holds(found), True)
                    self.exact(holds_by_hand(found), True)
        for word in words():
            self.assertGreater(counts[word][1], 10, word)
            if word != "live":
                self.assertGreater(counts[word][0], 10, word)

    def test_crews_with_dead_steps(self):
        plan = plan_of("t: s -> e\ny: y -> e\nz: y -> 2 y")
        for crew, right in ((("t",), True), (("t", "y"), True), (("t", "z"), False), (("t", "y", "z"), False), (("z",), False), (("y",), False), ((), False)):
            found = sheet_for("sure", (plan, crew), 9)
            self.exact(found is not None, right)
            self.exact(told_by_functions("sure", (plan, crew), 9) is not None, right)
            for word in ("led", "lost"):
                question = (plan, crew, 1, heap(s=1))
                self.assertTrue((sheet_for(word, question, 9) or (word, question, None))[2] == told_by_functions(word, question, 9))
        # A crew without weights of its own is looked at, though no function tells of it.
        whole = sheet_for("whole", plan, 9)[2]
        self.exact(sheet_holds(("sure", (plan, ("t", "z")), (whole, ((), ("t",))))), True)
        self.exact(sheet_holds(("led", (plan, ("t", "z"), 1, heap(s=1)), ("t",))), True)

    def test_sizes(self):
        self.refused(InvalidSize, {"word": "word"}, sheet_for, "walks", None, 10)
        for word in ("", "Live", "belongs", None, 1, True, ("live",), ["live"], nested(80), ONE, 10 ** 3999, "no  edition"):
            for question in (ONE, None, (ONE, 1)):
                self.refused(InvalidSize, {"word": "word"}, sheet_for, word, question, 10)
        rng = generator(262)
        right = dict(questions_of(rng, LINE))
        for word in words():
            for question in ODD + (nested(80),):
                if not (isinstance(question, Plan) and LOOKS[word][0] == "plan"):
                    self.refused(InvalidSize, {"word": "question"}, sheet_for, word, question, 10)
            sheet_for(word, right[word], 10)
            for other in changed(right[word]):
                if not holds_question(word, other):
                    self.refused(InvalidSize, {"word": "question"}, sheet_for, word, other, 10)
                else:
                    sheet_for(word, other, 10)

    def test_numbers_of_cases(self):
        # A number of cases is from 0 on, though what belongs is told of any integer.
        self.exact(belongs(LINE, -1, (("e", 1),)), False)
        self.refused(InvalidSize, {"word": "question"}, sheet_for, "in", (LINE, -1, heap(e=1)), 9)
        self.refused(InvalidSize, {"word": "question"}, sheet_for, "out", (LINE, -1, heap(e=1)), 9)
        self.exact(sheet_holds(("out", (LINE, -1, heap(e=1)), barred(LINE, -1, heap(e=1)))), False)

    def test_most(self):
        self.exact(sheet_for("whole", LINE, 2), None)
        self.exact(sheet_for("whole", LINE, 3)[2][2], (("stop",), (), ("go", "stop")))
        self.exact(sheet_for("led", (LINE, ("go", "stop"), 2, heap(s=2)), 5), None)
        self.exact(sheet_for("led", (LINE, ("go", "stop"), 2, heap(s=2)), 6)[2], ("go", "go", "stop", "stop"))
        self.exact(sheet_for("lost", (GROWS, ("u",), 1, heap(a=1)), 4000), None)
        self.exact(isinstance(verdict(GROWS, 9), Growing) and sheet_for("nothing", GROWS, 1)[0], "nothing")

    def test_greatest(self):
        # Eight places, eight steps, 16 rows in the longest list.
        plan = plan_of("a: s -> b, c\nd: b -> f\ng: c -> h\ni: f, h -> e\nj: b, h -> e\nk: c, f -> e\nl: s -> m, o\nn: m, o -> e")
        self.exact((len(plan.places), len(plan.steps)), (8, 8))
        self.assertLessEqual(width_of(plan), 16)
        self.assertLessEqual(len(least_heaps(plan)), 20)
        for _ in range(30):
            sheet = sheet_for("whole", plan, 4000)
            self.exact(sheet_holds(sheet), True)
            self.exact(sheet_holds(sheet_for("sure", (plan, live_steps(plan)), 4000)), True)


def holds_question(word, question):
    return question_of(LOOKS[word][0], question)


if __name__ == "__main__":
    unittest.main()
