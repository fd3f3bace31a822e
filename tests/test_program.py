"""The whole program: one row of lines through desk, house, log, journal, record and audit; all tell the same."""

import unittest

from caseshome.audit import audit
from caseshome.commands import deed_line, read_deed
from caseshome.court import Whole, check_verdict, sure, verdict
from caseshome.desk import Desk, run_lines
from caseshome.editions import carried, carry_behind, check_edition, edition
from caseshome.ender import ending
from caseshome.facts import facts_of
from caseshome.follows import all_facts, told_by
from caseshome.house import House
from caseshome.houseruns import house_after, run_house, same_house
from caseshome.journal import Journal
from caseshome.lists import least_heaps
from caseshome.octets import log_of, opened
from caseshome.plantext import plan_text, read_plan
from caseshome.prices import check_mean, least_mean
from caseshome.runs import run_end
from caseshome.sheets import sheet_for, sheet_holds
from caseshome.sums import open_cases
from caseshome.terms import plan_of as plan_of_term
from caseshome.terms import read_term
from caseshome.walks import ends_of
from tests.deskhand import some_saying, DeskByHand
from tests.helpers import Case, generator, heap
from tests.model import SORTS
from tests.somedeeds import MOST, opening

OFFICE = """start new
end done
step check: open -> seen
step join: mail, seen -> done
step split: new -> mail, open
step swap: 2 mail -> 2 parcel
step take: parcel, seen -> done"""
LATER = "start in\nend out\nstep file: note -> out\nstep make: in -> note\nstep more: note -> draft\nstep turn: draft -> note"
CARRY = (("done", heap(out=1)), ("mail", ()), ("new", heap(**{"in": 1})), ("open", heap(note=1)), ("parcel", ()), ("seen", heap(note=1)))


def same_told(case, one, other):
    """Two houses tell the same of all names."""
    for sort in SORTS:
        case.exact(one.names(sort), other.names(sort))
    for name in [name for sort in SORTS for name in one.names(sort)]:
        case.assertTrue(one.told(name) == other.told(name))
        case.exact(one.hanging(name), other.hanging(name))
    for name in one.names("plan"):
        case.assertTrue(one.whole_now(name) == other.whole_now(name))
    for name in one.names("floor"):
        case.exact((one.open_now(name), one.ending_now(name), one.roads(name)), (other.open_now(name), other.ending_now(name), other.roads(name)))


class Program(Case):
    def lines(self):
        texts = [text.replace("\n", " / ") for text in (OFFICE, LATER)]
        carry = deed_line(("edition", "move", "office", "later", CARRY))
        return ["plan office " + texts[0], "plan later " + texts[1], "crew all office check join split swap take", "crew few office check join split",
                "floor desk office", "put desk 6", "step desk all 6 split 4 check 2 swap", carry, "sure all", "sure few", "told desk", "ending desk", "undo",
                "redo", "mean office 1 2 3 4 5", "off desk mail open", "all put desk 2; step desk few 2 split; floor spare later; put spare 3", "undo", "undo",
                "redo", "redo", "carry desk move", "open desk", "ending desk", "comes desk", "names floor", "depth", "drop office", "drop few", "told move"]

    def test_one_row_of_lines(self):
        desk, journal, house = Desk(), Journal(), House()
        for line in self.lines():
            outcome = desk.say(line)
            if outcome[0] == "did":
                word = house.do(read_deed(line))
                self.exact((outcome[1], journal.do(read_deed(line))), (word, word))
            same_told(self, desk.house(), house)
            self.assertTrue(same_house(house, journal.house()))
            self.assertTrue(same_house(house, desk.house()))
            self.assertTrue(same_house(opened(journal.octets(), 2000)[0], house))
            # The log has what is done and not undone.
            same_told(self, opened(log_of(house), 2000)[0], house)
            same_told(self, house_after(house.deeds(), 2000), house)
            same_told(self, journal.packed().house(), house)
        self.exact(audit(desk.record(), 2000), None)
        self.exact(run_lines(self.lines(), 2000), tuple(row[1] for row in desk.record()))
        self.exact([row[1] for row in desk.record()][8:12], [("told", True), ("told", False), ("told", "lay desk 6 2 mail 2 open 4 parcel 4 seen"),
                                                             ("told", "2 check 2 join 4 take")])
        self.exact(desk.say("told desk"), ("told", "lay desk 7 7 note"))
        self.exact(desk.say("drop office"), ("did", "hangs"))

    def test_what_an_ending_tells_ends_it(self):
        desk = Desk()
        for line in self.lines()[:7]:
            desk.say(line)
        rows = desk.say("ending desk")[1]
        self.exact(desk.say("step desk all " + rows), ("did", "done"))
        self.exact(desk.say("told desk"), ("told", "lay desk 6 6 done"))
        self.exact(desk.say("undo"), ("did", "done"))
        self.exact(desk.say("end desk few"), ("did", "lost"))
        self.exact(desk.say("end desk all"), ("did", "done"))
        self.exact(desk.say("open desk"), ("told", 0))

    def test_what_is_there_is_shown(self):
        plan = read_plan(OFFICE)
        self.exact(plan_text(plan), OFFICE)
        found = verdict(plan, 2000)
        self.assertIs(type(found), Whole)
        self.exact(check_verdict(plan, found), True)
        crew = ("check", "join", "split", "swap", "take")
        sheets = [sheet_for("whole", plan, 2000), sheet_for("sure", (plan, crew), 2000), sheet_for("edition", (plan, read_plan(LATER), CARRY), 2000),
                  sheet_for("in", (plan, 2, heap(mail=2, seen=2)), 2000), sheet_for("live", plan, 2000)]
        self.exact([sheet_holds(sheet) for sheet in sheets], [True] * 5)
        facts = [fact for sheet in sheets for fact in facts_of(sheet)]
        self.exact(told_by(facts, "ends", (plan, crew, 2, heap(mail=2, seen=2))), True)
        self.exact(told_by(facts, "comes", (plan, 2, heap(mail=2, seen=2))), True)
        self.exact(told_by(facts, "belongs", (read_plan(LATER), 2, heap(note=2))), True)
        self.exact(told_by(facts, "belongs", (read_plan(LATER), 2, heap(note=1))), None)
        for fact in all_facts(facts):
            self.exact(told_by(facts, fact[0], fact[1]), fact[2])

    def test_the_house_tells_what_is_told_anew(self):
        house = house_after([read_deed(line) for line in self.lines() if line.split(" ")[0] not in
                             ("sure", "told", "ending", "mean", "open", "comes", "names", "depth")], 2000)
        plan, later = read_plan(OFFICE), read_plan(LATER)
        self.exact(run_house(house.deeds(), 2000), ("done",) * house.depth()[0])
        self.assertTrue(house.whole_now("office") == verdict(plan, 2000))
        self.exact(house.heaps_now("office"), least_heaps(plan))
        self.assertTrue(house.edition_now("move") == edition(plan, later, CARRY, 2000))
        self.exact(check_edition(plan, later, CARRY, house.edition_now("move")), True)
        self.assertTrue(house.sure_now("all") == sure(plan, ("check", "join", "split", "swap", "take"), 2000))
        self.assertRaises(KeyError, house.sure_now, "few")
        _, name, cases, papers = house.told("desk")
        self.exact((name, house.open_now("desk")), ("later", open_cases(later, cases, papers)))
        self.exact(house.ending_now("desk"), ending(later, cases, papers, 2000))
        self.exact(run_end(later, papers, house.ending_now("desk")), ends_of(later, cases))

    def test_editions_behind_one_another(self):
        # From a plan into a later one, and from there into one step: by one carry, or by both.
        last = read_plan("start a\nend z\nstep one: a -> z")
        to_last = (("draft", heap(a=1)), ("in", heap(a=1)), ("note", heap(a=1)), ("out", heap(z=1)))
        both = carry_behind(CARRY, to_last)
        deeds = [("plan", "office", read_plan(OFFICE)), ("plan", "later", read_plan(LATER)), ("plan", "last", last), ("floor", "f", "office"),
                 ("edition", "x", "office", "later", CARRY), ("edition", "y", "later", "last", to_last), ("edition", "z", "office", "last", both),
                 ("lay", "f", 3, heap(mail=2, new=1, open=1, seen=1))]
        house = house_after(deeds, 2000)
        self.exact(house.depth(), (8, 0))
        there = house.told("f")[3]
        self.exact(house.roads("f"), (("office", (), there), ("later", ("x",), carried(CARRY, there)), ("last", ("z",), carried(both, there))))
        self.exact(house.do(("drop", "z")), "done")
        self.exact(house.roads("f")[2], ("last", ("x", "y"), carried(both, there)))
        facts = [fact for one in ("x", "y") for fact in facts_of(sheet_for("edition", self.question(house, one), 2000))]
        self.exact(told_by(facts, "edition", (read_plan(OFFICE), last, both)), True)

    def question(self, house, name):
        _, old, new, carry = house.told(name)
        return house.told(old)[1], house.told(new)[1], carry

    def test_terms_are_taken_by_houses(self):
        term = read_term("(a; f(b & x(c ^ y)z)j; (d | g))")
        plan = plan_of_term(term)
        desk = Desk()
        self.exact(desk.say(deed_line(("plan", "term", plan))), ("did", "done"))
        self.exact(desk.say("whole term")[0], "told")
        costs = tuple((step[0], 2) for step in plan.steps)
        best = least_mean(plan, costs, 2000)
        self.exact(check_mean(plan, costs, best), True)
        self.exact(desk.say("mean term" + " 2" * len(plan.steps)), ("told", best.cost))
        self.exact(audit(desk.record(), 2000), None)

    def test_by_chance(self):
        rng = generator(340)
        for _ in range(12):
            desk, hand, journal = Desk(MOST), DeskByHand(MOST), Journal((), MOST)
            for at in range(40):
                line, outcome, _ = hand.say(opening()[at] if at < len(opening()) else some_saying(rng, hand.model))
                self.exact(desk.say(line), outcome)
                if outcome[0] == "did":
                    self.exact(journal.do(read_deed(line)), outcome[1])
                if rng.random() < 0.2:
                    journal.sync()
            self.assertTrue(same_house(journal.house(), desk.house()))
            self.assertTrue(same_house(opened(journal.octets(), MOST)[0], desk.house()))
            same_told(self, journal.packed().house(), desk.house())
            same_told(self, opened(log_of(desk.house()), MOST)[0], desk.house())
            self.exact(audit(desk.record(), MOST), None)
            # Each line that a desk told of a name makes it again.
            other = Desk(MOST)
            for sort in SORTS:
                for name in desk.house().names(sort):
                    if sort == "floor":
                        other.say(f"floor {name} {desk.house().told(name)[1]}")
                    self.exact(other.say(desk.say("told " + name)[1]), ("did", "done"))
            same_told(self, other.house(), desk.house())


if __name__ == "__main__":
    unittest.main()
