"""[80]: what follows from facts."""

import unittest

from caseshome.closure import live_steps
from caseshome.court import whole_or_not
from caseshome.editions import carry_behind, same_carry
from caseshome.facts import facts_of, is_fact
from caseshome.follows import all_facts, told_by
from caseshome.lattice import belongs
from caseshome.lists import least_heaps
from caseshome.plans import Plan, names_of
from caseshome.plantext import read_plan
from caseshome.sheets import sheet_for
from caseshome.weights import kept_weights
from tests.handfollows import Clash, all_by_hand, follows_by_hand, key
from tests.helpers import Case, generator, heap, plan_of
from tests.search import GROWING, STUCK, WHOLE
from tests.test_sheets import questions_of

ONE = read_plan("start s\nend e\nstep t: s -> e")
LINE = plan_of("go: s -> a\nstop: a -> e")
QUICK = plan_of("go: s -> a\nquick: s -> e\nstop: a -> e")
GROWS = plan_of("t: s -> a\nu: a -> 2 a\nv: a -> e")
DEAD = plan_of("t: s -> e\nz: y -> e")
OVER = (("a", heap(s=1)), ("e", heap(e=1)), ("s", heap(s=1)))
SAME = (("a", heap(a=1)), ("e", heap(e=1)), ("s", heap(s=1)))
A, S, E, NONE = (1, heap(a=1)), (1, heap(s=1)), (1, heap(e=1)), (2, heap(a=1))


def told(facts):
    """The facts without their plans."""
    return [(fact[0], fact[1][1:] if isinstance(fact[1], tuple) else (), fact[2]) for fact in all_facts(facts)]


class Rules(Case):
    def only(self, facts, *more):
        """Just the facts themselves and these follow, whatever the order of the facts."""
        expected = sorted([key(word, asked) + (str(answer),) for word, asked, answer in [*facts, *more]], key=str)
        for handed in (list(facts), tuple(facts)[::-1]):
            found = all_facts(handed)
            self.exact(sorted([key(word, asked) + (str(answer),) for word, asked, answer in found], key=str), expected)
            for word, asked, answer in found:
                self.exact(told_by(handed, word, asked), answer)
                self.exact(is_fact((word, asked, answer)), True)

    def test_examples(self):
        facts = [("whole", ONE, True), ("comes", (ONE, 2, (("e", 1), ("s", 1))), True)]
        self.exact((told_by(facts, "belongs", (ONE, 2, (("e", 1), ("s", 1)))), told_by(facts, "belongs", (ONE, 1, (("s", 1),)))), (True, None))
        found = all_facts([("whole", ONE, True), ("belongs", (ONE, 1, (("s", 1),)), True)])
        self.exact([(fact[0], fact[2]) for fact in found], [("belongs", True), ("comes", True), ("weights", True), ("whole", True)])

    def test_no_facts(self):
        self.exact((all_facts([]), all_facts(())), ((), ()))
        for word, asked in (("whole", ONE), ("belongs", (ONE,) + S), ("sure", (ONE, ("t",))), ("ends", (ONE, ("t",)) + S), ("mean", (ONE, (("t", 0),))),
                            ("edition", (ONE, ONE, same_carry(ONE))), ("below", (ONE, ((("s", -1),), 0))), ("comes", (ONE,) + S)):
            self.exact((told_by([], word, asked), told_by((), word, asked)), (None, None))

    def test_themselves(self):
        for fact in (("weights", ONE, True), ("whole", ONE, False), ("belongs", (LINE,) + A, True), ("belongs", (LINE,) + A, False),
                     ("comes", (LINE,) + A, True), ("comes", (LINE,) + A, False), ("ends", (LINE, ("go",)) + A, True), ("ends", (LINE, ()) + A, False),
                     ("sure", (LINE, ("go",)), False), ("edition", (LINE, ONE, OVER), False), ("below", (LINE, ((("a", 1), ("s", 1)), 1)), False),
                     ("below", (LINE, ((("a", 1), ("s", 1)), 1)), True), ("mean", (ONE, (("t", 3),)), (7, 2))):
            self.only([fact])
        # Costs are asked by themselves: no other costs follow.
        self.exact(told_by([("mean", (ONE, (("t", 3),)), (7, 2))], "mean", (ONE, (("t", 4),))), None)
        self.exact(told_by([("mean", (ONE, (("t", 3),)), (7, 2))], "mean", (ONE, (("t", 3),))), (7, 2))

    def test_first_rule(self):
        self.only([("whole", ONE, True)], ("weights", ONE, True))
        self.only([("weights", ONE, False)], ("whole", ONE, False))
        self.only([("sure", (LINE, ("go",)), True)], ("whole", LINE, True), ("weights", LINE, True))
        self.only([("edition", (LINE, ONE, OVER), True)], ("whole", ONE, True), ("weights", ONE, True))
        # Not in the other direction.
        self.only([("weights", ONE, True)])
        self.only([("whole", ONE, False)])
        self.only([("whole", LINE, False), ("sure", (LINE, ("go",)), False)])

    def test_second_rule(self):
        whole, more = ("whole", LINE, True), ("weights", LINE, True)
        self.only([whole, ("belongs", (LINE,) + A, True)], more, ("comes", (LINE,) + A, True))
        self.only([whole, ("comes", (LINE,) + A, True)], more, ("belongs", (LINE,) + A, True))
        self.only([whole, ("belongs", (LINE,) + A, False)], more, ("comes", (LINE,) + A, False))
        self.only([whole, ("comes", (LINE,) + A, False)], more, ("belongs", (LINE,) + A, False))
        for word in ("belongs", "comes"):
            for answer in (True, False):
                # Of no other plan, and of a plan that is not whole, nothing follows.
                self.only([("whole", LINE, False), (word, (LINE,) + A, answer)])
                self.only([("weights", LINE, True), (word, (LINE,) + A, answer)])
                self.only([("whole", QUICK, True), (word, (LINE,) + A, answer)], ("weights", QUICK, True))
        # By the crew of all live steps, if it is named: with whatever plan.
        live = ("go", "stop")
        self.only([whole, ("belongs", (LINE,) + A, True), ("sure", (LINE, live), False)], more, ("comes", (LINE,) + A, True), ("ends", (LINE, live) + A, True))
        self.only([whole, ("belongs", (LINE,) + A, True), ("sure", (QUICK, live), False)], more, ("comes", (LINE,) + A, True), ("ends", (LINE, live) + A, True))
        self.only([whole, ("belongs", (LINE,) + A, True), ("sure", (LINE, ("go",)), False)], more, ("comes", (LINE,) + A, True))
        # Dead steps do not count.
        self.only([("whole", DEAD, True), ("belongs", (DEAD,) + S, True), ("sure", (DEAD, ("t",)), False), ("sure", (DEAD, ("t", "z")), False)],
                  ("weights", DEAD, True), ("comes", (DEAD,) + S, True), ("ends", (DEAD, ("t",)) + S, True))

    def test_third_rule(self):
        sure, more = ("sure", (QUICK, ("go", "stop")), True), (("whole", QUICK, True), ("weights", QUICK, True))
        self.only([sure, ("belongs", (QUICK,) + A, True)], *more, ("ends", (QUICK, ("go", "stop")) + A, True), ("comes", (QUICK,) + A, True))
        self.only([sure, ("belongs", (QUICK,) + A, False)], *more, ("comes", (QUICK,) + A, False))
        live = ("go", "quick", "stop")
        self.only([sure, ("ends", (QUICK, live) + A, True)], *more, ("sure", (QUICK, live), True))
        self.only([sure, ("ends", (QUICK, ("go",)) + A, True), ("ends", (QUICK, ("quick", "stop")) + A, False)], *more)
        # A pair that belongs and is not ended.
        self.only([("belongs", (QUICK,) + A, True), ("ends", (QUICK, ("go",)) + A, False)], ("sure", (QUICK, ("go",)), False))
        self.only([("belongs", (QUICK,) + A, True), ("ends", (QUICK, live) + A, False)], ("sure", (QUICK, live), False), ("whole", QUICK, False))
        self.only([("belongs", (QUICK,) + A, True), ("ends", (QUICK, ("go",)) + S, False)])
        self.only([("belongs", (QUICK,) + A, False), ("ends", (QUICK, live) + A, False)])
        self.only([("belongs", (LINE,) + A, True), ("ends", (QUICK, live) + A, False)])
        # More than all live steps are all of them, too; all but a dead one as well.
        self.only([("belongs", (DEAD,) + S, True), ("ends", (DEAD, ("t", "z")) + S, False)], ("sure", (DEAD, ("t", "z")), False), ("whole", DEAD, False))
        self.only([("belongs", (DEAD,) + S, True), ("ends", (DEAD, ("t",)) + S, False)], ("sure", (DEAD, ("t",)), False), ("whole", DEAD, False))
        self.only([("belongs", (DEAD,) + S, True), ("ends", (DEAD, ("z",)) + S, False)], ("sure", (DEAD, ("z",)), False))
        # Crews within one that is not sure, and those around one that is.
        self.only([("sure", (QUICK, live), False), ("ends", (QUICK, ("go",)) + A, True), ("ends", (LINE, ()) + A, True)],
                  ("sure", (QUICK, ("go",)), False), ("sure", (QUICK, ()), False))
        self.only([("sure", (QUICK, ("go",)), False), ("ends", (QUICK, ("go", "stop")) + A, True)])
        self.only([("sure", (QUICK, ("stop",)), True), ("ends", (QUICK, ("go",)) + A, True), ("ends", (LINE, ("go", "stop")) + A, True)], *more,
                  ("sure", (QUICK, ("go", "stop")), True))
        # Of a crew that has no steps of the plan nothing is told.
        self.only([("sure", (LINE, ()), True), ("sure", (QUICK, ("quick",)), False)], ("whole", LINE, True), ("weights", LINE, True),
                  ("sure", (QUICK, ()), False))

    def test_fourth_rule(self):
        crew = ("go", "stop")
        ends = [("ends", (LINE, crew) + pair, True) for pair in least_heaps(LINE)]
        self.exact(len(ends), 3)
        self.only(ends)
        self.only([("whole", LINE, True), *ends], ("weights", LINE, True), ("sure", (LINE, crew), True))
        for at in range(3):
            self.only([("whole", LINE, True), *ends[:at], *ends[at + 1:]], ("weights", LINE, True))
        # Whichever crew it is; others do not count.
        mixed = [("ends", (LINE, ("go",)) + least_heaps(LINE)[0], True), *ends[1:]]
        self.only([("whole", LINE, True), *mixed], ("weights", LINE, True))
        lone = [("ends", (LINE, ()) + pair, True) for pair in least_heaps(LINE)]
        self.only([("whole", LINE, True), *lone], ("weights", LINE, True), ("sure", (LINE, ()), True))
        # Without kept weights there are no least heaps, whatever is told.
        self.only([("whole", GROWS, True), ("ends", (GROWS, ("t",)) + S, True)], ("weights", GROWS, True))

    def test_fifth_rule(self):
        edition, more = ("edition", (LINE, ONE, OVER), True), (("whole", ONE, True), ("weights", ONE, True))
        self.only([edition, ("belongs", (LINE,) + A, True), ("ends", (ONE, ()) + S, True)], *more,
                  ("belongs", (ONE,) + S, True), ("comes", (ONE,) + S, True))
        # What it is carried to has to be named; it may be named of whatever plan.
        self.only([edition, ("belongs", (LINE,) + A, True)], *more)
        self.only([edition, ("belongs", (LINE,) + S, True)], *more, ("belongs", (ONE,) + S, True), ("comes", (ONE,) + S, True))
        self.only([edition, ("belongs", (LINE,) + A, False), ("ends", (ONE, ()) + S, True)], *more)
        self.only([edition, ("belongs", (ONE,) + S, True)], *more, ("comes", (ONE,) + S, True))
        # No edition.
        self.only([("ends", (LINE, ()) + A, True), ("edition", (QUICK, ONE, OVER), False), ("belongs", (LINE,) + A, True), ("belongs", (ONE,) + S, False)],
                  ("edition", (LINE, ONE, OVER), False))
        self.only([("edition", (LINE, QUICK, OVER), False), ("belongs", (LINE,) + A, True), ("belongs", (ONE,) + S, False)],
                  ("edition", (LINE, ONE, OVER), False))
        self.only([("edition", (LINE, QUICK, OVER), False), ("belongs", (LINE,) + A, False), ("belongs", (ONE,) + S, False)])
        self.only([("edition", (LINE, QUICK, SAME), False), ("belongs", (LINE,) + A, True), ("belongs", (QUICK,) + S, False)])

    def test_editions_behind_one_another(self):
        both = carry_behind(SAME, OVER)
        self.exact(both, OVER)
        first, second = ("edition", (LINE, QUICK, SAME), True), ("edition", (QUICK, ONE, OVER), True)
        more = [("whole", QUICK, True), ("weights", QUICK, True), ("whole", ONE, True), ("weights", ONE, True)]
        self.only([first, second], *more, ("edition", (LINE, ONE, OVER), True))
        twice = (("a", heap(a=2)), ("e", heap(e=1)), ("s", heap(s=1)))
        # The carry of both has to be named.
        self.only([("edition", (LINE, QUICK, twice), True), second], *more)
        third = (("a", heap(s=2)), ("e", heap(e=1)), ("s", heap(s=1)))
        self.only([("edition", (LINE, QUICK, twice), True), second, ("edition", (LINE, QUICK, third), False)], *more, ("edition", (LINE, ONE, third), True))
        # A ring of editions, and one of a plan into itself.
        swap = (("a", heap(s=1)), ("e", heap(e=1)), ("s", heap(a=1)))
        self.only([("edition", (LINE, LINE, swap), True), ("ends", (ONE, ()) + S, True)], ("whole", LINE, True), ("weights", LINE, True))
        self.only([("edition", (LINE, LINE, swap), True), ("edition", (QUICK, QUICK, SAME), False)], ("whole", LINE, True), ("weights", LINE, True),
                  ("edition", (LINE, LINE, SAME), True))

    def test_sixth_rule(self):
        asked = ((("a", -1), ("s", 2)), 0)
        self.only([("belongs", (LINE,) + A, True), ("below", (QUICK, asked), False)], ("below", (LINE, asked), True))
        self.only([("belongs", (LINE,) + S, True), ("below", (QUICK, asked), False)])
        self.only([("belongs", (LINE,) + A, False), ("below", (QUICK, asked), False)])
        self.only([("belongs", (LINE, 3) + (heap(a=2, s=1),), True), ("below", (QUICK, asked), False)])
        self.only([("belongs", (LINE, 4) + (heap(a=3, s=1),), True), ("below", (QUICK, asked), False)], ("below", (LINE, asked), True))
        self.only([("belongs", (ONE,) + S, True), ("below", (QUICK, asked), False)])

    def test_what_is_asked_is_named(self):
        facts = [("whole", LINE, True), ("belongs", (LINE,) + A, True)]
        self.exact(told_by(facts, "ends", (LINE, ("go", "stop")) + A), True)
        self.exact(told_by(facts, "ends", (LINE, ("go",)) + A), None)
        self.exact(told_by(facts, "ends", (LINE, ("go", "stop")) + S), None)
        self.exact(told_by(facts, "comes", (QUICK,) + A), None)
        self.exact(told_by([("sure", (QUICK, ("go", "stop")), True)], "sure", (QUICK, ("go", "quick", "stop"))), True)
        self.exact(told_by([("sure", (QUICK, ("go", "stop")), False)], "sure", (QUICK, ("go",))), False)
        self.exact(told_by([("belongs", (LINE,) + A, True)], "below", (LINE, ((("a", -1), ("s", 0)), 0))), True)
        self.exact(told_by([("edition", (LINE, ONE, OVER), True), ("belongs", (LINE,) + A, True)], "belongs", (ONE,) + S), True)
        self.exact(told_by([("belongs", (LINE,) + A, True), ("belongs", (ONE,) + S, False)], "edition", (LINE, ONE, OVER)), False)
        # A plan that is asked is named: what belongs there leads on.
        facts = [("edition", (LINE, QUICK, SAME), True), ("edition", (QUICK, ONE, OVER), True)]
        self.exact(told_by(facts, "edition", (LINE, ONE, OVER)), True)
        self.exact(told_by(facts, "whole", QUICK), True)
        self.exact(told_by(facts, "whole", LINE), None)

    def test_the_order(self):
        facts = [("whole", QUICK, True), ("whole", LINE, True), ("belongs", (QUICK,) + S, True), ("belongs", (LINE, 2, heap(e=1, s=1)), True),
                 ("belongs", (LINE,) + S, True), ("belongs", (LINE,) + A, True), ("belongs", (LINE, 10, heap(s=10)), True), ("sure", (LINE, ("stop",)), False)]
        found = told(facts)
        # The text of QUICK goes ahead: its second step does.
        self.exact(found[:5], [("belongs", S, True), ("belongs", A, True), ("belongs", S, True), ("belongs", (2, heap(e=1, s=1)), True),
                               ("belongs", (10, heap(s=10)), True)])
        self.exact([fact[0] for fact in found], ["belongs"] * 5 + ["comes"] * 5 + ["sure"] + ["weights"] * 2 + ["whole"] * 2)
        # Texts, not what is in the plans: a plan with a step more comes behind, of the new plan last.
        longer = plan_of("t: s -> e\nu: s -> e")
        line = same_carry(ONE)
        facts = [("edition", (old, new, line), False) for old in (longer, ONE) for new in (longer, ONE)]
        self.exact([[len(plan.steps) for plan in fact[1][:2]] for fact in all_facts(facts)], [[1, 1], [1, 2], [2, 1], [2, 2]])
        self.exact(all_facts(facts + facts[::-1]) == all_facts(facts), True)


class ByChance(Case):
    def some_facts(self, rng, plans, many):
        """Facts by chance over a few plans, crews and pairs; often they clash."""
        found = []
        for _ in range(many):
            plan = rng.choice(plans)
            crew = tuple(sorted(rng.sample(names_of(plan), rng.randint(0, len(plan.steps)))))
            pair = rng.choice([A, S, E, NONE, (0, ()), (1, ())])
            pair = pair if all(place in plan.places for place, _ in pair[1]) else S
            word = rng.choice(("whole", "weights", "belongs", "belongs", "ends", "ends", "sure", "edition", "edition", "below", "mean", "comes"))
            if word in ("whole", "weights"):
                found.append((word, plan, rng.random() < 0.7))
            elif word in ("belongs", "comes"):
                found.append((word, (plan,) + pair, rng.random() < 0.7))
            elif word == "ends":
                found.append((word, (plan, crew) + pair, rng.random() < 0.7))
            elif word == "sure":
                found.append((word, (plan, crew), rng.random() < 0.6))
            elif word == "edition":
                new = rng.choice(plans)
                carry = tuple((place, heap(e=1) if place == "e" else rng.choice((heap(s=1), heap(s=1), heap(**{place: 1}), heap(e=1))))
                              for place in plan.places)
                if all(place in new.places for _, papers in carry for place, _ in papers):
                    found.append((word, (plan, new, carry), rng.random() < 0.8))
            elif word == "below":
                found.append((word, (plan, (tuple((place, rng.randint(-1, 1)) for place in plan.places if place != "e"), rng.randint(-1, 1))), rng.random() < 0.5))
            else:
                found.append((word, (plan, tuple((name, 1) for name in names_of(plan))), (1, 2)))
        return found

    def test_against_all_rules_again_and_again(self):
        rng = generator(280)
        done, most = 0, 0
        plans = [ONE, LINE, QUICK, GROWS, DEAD]
        for _ in range(2000):
            facts = self.some_facts(rng, rng.sample(plans, rng.randint(1, 4)), rng.randint(1, 9))
            try:
                expected = all_by_hand(facts)
            except Clash:
                continue
            done += 1
            found = all_facts(facts)
            self.exact([(key(word, asked), answer) for word, asked, answer in found], expected)
            most = max(most, len(found) - len(facts))
            for word, asked, _ in self.some_facts(rng, plans, 3):
                try:
                    expected = follows_by_hand(facts, word, asked)
                except Clash:
                    continue
                self.exact(self.unchanged(told_by, tuple(facts), word, asked), expected)
        self.assertGreater(done, 300)
        self.assertGreater(most, 10)

    def test_what_follows_from_true_facts_is_true(self):
        rng = generator(281)
        many = 0
        for _ in range(60):
            facts = []
            for plan in [plan_of(rng.choice(WHOLE + STUCK + GROWING)) for _ in range(2)]:
                for _ in range(2):
                    for word, question in questions_of(rng, plan):
                        sheet = sheet_for(word, question, 60)
                        if sheet is not None and len(facts) < 55:
                            facts += facts_of(sheet)
            found = all_facts(facts)
            self.exact([(key(word, asked), answer) for word, asked, answer in found], all_by_hand(facts))
            for word, asked, answer in found:
                if word == "whole":
                    self.exact(whole_or_not(asked, 4000), answer)
                elif word == "weights":
                    self.exact(kept_weights(asked) is not None, answer)
                elif word == "belongs":
                    self.exact(belongs(*asked), answer)
                elif word == "comes" and answer is False:
                    self.exact(belongs(*asked), False)
                many += 1
            for fact in facts:
                self.assertTrue(fact in found)
        self.assertGreater(many, 1000)

    def test_a_chain_until_nothing_new_comes(self):
        # Ten editions behind one another carry what belongs, and what follows of it, through all plans.
        plans = [Plan(LINE.places + ("z" + "abcdefghijk"[at],), LINE.steps, "s", "e") for at in range(11)]
        carries = [tuple((place, ((place, 1),) if place in "aes" else heap(s=1)) for place in plan.places) for plan in plans]
        facts = [("edition", (plans[at], plans[at + 1], carries[at]), True) for at in range(10)]
        facts.append(("belongs", (plans[0],) + A, True))
        facts.append(("sure", (plans[0], ("go", "stop")), False))
        for handed in (facts, facts[::-1]):
            self.exact(told_by(handed, "ends", (plans[10], ("go", "stop")) + A), True)
            self.exact(told_by(handed, "edition", (plans[0], plans[10], carries[0])), True)
            found = all_facts(handed)
            self.exact(sum(fact[0] == "edition" for fact in found), 55)
            self.exact(sum(fact[0] == "ends" for fact in found), 10)

    def test_greatest(self):
        steps = tuple((name, heap(s=1), heap(e=1)) for name in "abcdefgh")
        plan = Plan(("e", "s"), steps, "s", "e")
        crews = [tuple("abcdefgh"[:many]) for many in range(1, 9)] + [tuple("abcdefgh"[at:]) for at in range(1, 8)]
        facts = [("sure", (plan, ("a",)), True)] + [("ends", (plan, crew) + S, True) for crew in crews]
        facts += [("belongs", (plan, many, heap(s=many)), True) for many in range(1, 40)]
        for _ in range(5):
            found = all_facts(facts[:60])
            self.exact(len(found), len({key(*fact[:2]) for fact in found}))
            self.assertGreater(len(found), 400)
        same = same_carry(plan)
        plans = [Plan(("e", "s"), steps[at:], "s", "e") for at in range(8)] + [Plan(("e", "s"), steps[:at], "s", "e") for at in range(1, 8)]
        facts = [("edition", (plans[at], plans[(at + 1) % 15], same), True) for at in range(15)]
        facts += [("belongs", (plans[0], many, heap(s=many)), True) for many in range(1, 30)] + [("sure", (plan, tuple("abcdefgh")), True)]
        for _ in range(3):
            found = all_facts(facts)
            self.exact(sum(fact[0] == "edition" for fact in found), 225)
            self.exact(sum(fact[0] == "belongs" for fact in found), 29 * 15)
        self.exact(live_steps(plan), tuple("abcdefgh"))


if __name__ == "__main__":
    unittest.main()
