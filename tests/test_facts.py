"""[79]: facts."""

import unittest

from caseshome.closure import live_steps
from caseshome.facts import facts_of, is_fact
from caseshome.lists import least_lists
from caseshome.sheets import sheet_for, words
from caseshome.simplex import Best
from tests.handsheets import changed, fraction, question_of
from tests.helpers import ODD, Case, generator, heap, nested, plan_of
from tests.search import GROWING, STUCK, WHOLE
from tests.test_sheets import FORK, GROWS, LEND, LINE, LOST, ONE, ONE_WHOLE, OVER, PACK, RIGHT, questions_of

# For each word of a fact its question's kind.
KINDS = {"whole": "plan", "weights": "plan", "belongs": "pair", "ends": "walk", "sure": "crew", "edition": "carry", "below": "worth",
         "mean": "costs", "comes": "pair"}
QUESTIONS = {"plan": FORK, "pair": (LINE, 2, heap(a=1, s=1)), "walk": (LINE, ("go",), 0, heap(s=3)), "crew": (LINE, ("go", "stop")),
             "carry": (LINE, ONE, OVER), "worth": (LINE, ((("a", -2), ("s", 3)), 1)), "costs": (PACK, (("go", 2), ("home", 3), ("pack", 0)))}


def facts_by_hand(sheet):
    word, asked, paper = sheet
    plan = asked[0] if isinstance(asked, tuple) else asked
    if word in ("live", "lists"):
        return ()
    if word == "stuck":
        return (("belongs", (plan,) + paper[:2], True), ("ends", (plan, live_steps(plan)) + paper[:2], False), ("whole", plan, False))
    if word == "below":
        return (("belongs", (plan,) + paper[:2], True), ("below", asked, True))
    return {"weights": (("weights", plan, True),), "nothing": (("weights", plan, False), ("whole", plan, False)),
            "in": (("belongs", asked, True),), "out": (("belongs", asked, False),), "whole": (("weights", plan, True), ("whole", plan, True)),
            "led": (("ends", asked, True),), "lost": (("ends", asked, False),), "sure": (("whole", plan, True), ("sure", asked, True)),
            "edition": (("whole", asked[1] if isinstance(asked, tuple) else None, True), ("edition", asked, True)),
            "no edition": (("edition", asked, False),), "never": (("whole", plan, True), ("below", asked, False)),
            "mean": (("mean", asked, paper[:1][0] if paper else None),), "near": (("comes", asked, True),)}[word]


class Facts(Case):
    def test_of_right_sheets(self):
        for sheet in RIGHT:
            found = self.unchanged(facts_of, sheet)
            self.exact(len(found), len(facts_by_hand(sheet)))
            for fact, expected in zip(found, facts_by_hand(sheet)):
                self.assertTrue(fact == expected)
                self.exact((fact[0], fact[2], len(fact)), (expected[0], expected[2], 3))
                self.exact(is_fact(fact), True)

    def test_in_the_order_told(self):
        stuck = ("stuck", LOST, (3, heap(s=3), (), (heap(e=2, s=1), heap(s=3))))
        self.exact([(fact[0], fact[2]) for fact in facts_of(stuck)], [("belongs", True), ("ends", False), ("whole", False)])
        self.exact(facts_of(stuck)[1][1][1:], (("t",), 3, heap(s=3)))
        self.exact([(fact[0], fact[2]) for fact in facts_of(("nothing", GROWS, (("u", 1),)))], [("weights", False), ("whole", False)])
        self.exact([(fact[0], fact[2]) for fact in facts_of(("whole", ONE, ONE_WHOLE))], [("weights", True), ("whole", True)])
        edition = ("edition", (LINE, ONE, OVER), (ONE_WHOLE, (("", ()), ("go", ()), ("stop", (("t", 1),)))))
        self.exact([(fact[0], fact[2]) for fact in facts_of(edition)], [("whole", True), ("edition", True)])
        self.assertTrue(facts_of(edition)[0][1] == ONE)
        never = ("never", (ONE, ((("s", 0),), 0)), ONE_WHOLE)
        self.exact([(fact[0], fact[2]) for fact in facts_of(never)], [("whole", True), ("below", False)])
        self.exact(facts_of(("live", ONE, (2, (("t", 1),)))), ())
        self.exact(facts_of(("lists", ONE, least_lists(ONE))), ())

    def test_all_live_steps_alone(self):
        dead = plan_of("t: 2 s -> 2 e\nz: y -> e")
        sheet = sheet_for("stuck", dead, 99)
        self.exact(facts_of(sheet)[1][1][1], ("t",))

    def test_by_chance(self):
        rng = generator(270)
        counts = {}
        for _ in range(60):
            plan = plan_of(rng.choice(WHOLE + STUCK + GROWING))
            for word, question in questions_of(rng, plan):
                sheet = sheet_for(word, question, 60)
                if sheet is not None:
                    found = facts_of(sheet)
                    self.assertTrue(found == facts_by_hand(sheet))
                    self.exact([is_fact(fact) for fact in found], [True] * len(found))
                    counts[word] = counts.get(word, 0) + 1
        self.exact(tuple(sorted(counts)), words())

    def test_is_fact(self):
        for word, kind in KINDS.items():
            asked = QUESTIONS[kind]
            for answer in (True, False, (1, 2), (-3, 1), (0, 1), (2, 4), (1, 0), (1, -2), 1, 0, None, "True", (1, 2, 3), [1, 2], (True, 1), (True,),
                           (1,), (0, 2), (10 ** 3999, 1)):
                right = fraction(answer) if word == "mean" else isinstance(answer, bool)
                self.exact(is_fact((word, asked, answer)), right)
            answer = (1, 2) if word == "mean" else False
            for other in changed(asked):
                self.exact(is_fact((word, other, answer)), question_of(kind, other))
            for other in KINDS.values():
                self.exact(is_fact((word, QUESTIONS[other], answer)), question_of(kind, QUESTIONS[other]))
            for value in (list((word, asked, answer)), (word, asked), (word, asked, answer, answer), (word + "s", asked, answer), (answer, asked, word),
                          ([word], asked, answer), ((word,), asked, answer), (None, asked, answer)):
                self.exact(is_fact(value), False)

    def test_any_values(self):
        for value in ODD + (nested(80), Best((1, 1), (), ()), ONE):
            self.exact(is_fact(value), False)
            for word, kind in KINDS.items():
                answer = (1, 2) if word == "mean" else True
                self.exact(is_fact((word, value, answer)), question_of(kind, value))
                self.exact(is_fact((value, QUESTIONS[kind], answer)), False)
                self.exact(is_fact((word, QUESTIONS[kind], value)), fraction(value) if word == "mean" else isinstance(value, bool))
        self.exact([is_fact((word, LEND, True)) for word in words() + ("belongs", "ends", "comes")],
                   [word in ("whole", "weights") for word in words() + ("belongs", "ends", "comes")])


if __name__ == "__main__":
    unittest.main()
