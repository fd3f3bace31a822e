"""[84]: audits of records."""

import unittest

from caseshome.audit import audit
from caseshome.commands import read_deed
from caseshome.desk import Desk
from caseshome.errors import InvalidCommand
from caseshome.facts import facts_of
from caseshome.lists import least_lists
from caseshome.plans import Plan
from caseshome.plantext import read_plan
from caseshome.sheets import sheet_for, sheet_holds
from tests.deskhand import DeskByHand, some_saying
from tests.handfollows import follows_by_hand
from tests.handsheets import changed
from tests.helpers import ODD, Case, generator, heap, kinds, nested
from tests.somedeeds import MOST, opening
from tests.test_desk import NO_ASKS, shown_facts
from tests.test_commands import NO_LINES

LINE = read_plan("start s\nend e\nstep t: s -> a\nstep u: a -> e")
ONE = read_plan("start s\nend e\nstep t: s -> e")
LINES = ("plan p start s / end e / step t: s -> a / step u: a -> e", "plan g start s / end e / step t: s -> a / step u: a -> 2 a / step v: a -> e",
         "plan h start s / end e / step t: 2 s -> 2 e", "plan q start s / end e / step t: s -> e", "crew c p t u", "crew d p u",
         "edition x p q, a = s, e = e, s = s", "edition y p q, a = 2 s, e = e, s = s", "floor f p", "put f 3", "step f c t", "sure c", "sure d",
         "mean p 1 2", "ending f", "carry f x", "all floor g q; put g 2; drop n", "undo", "names floor", "told f", "end f c", "can f c", "comes f", "open f")


def record_of(lines, most=2000):
    desk = Desk(most)
    for line in lines:
        desk.say(line)
    return desk.record()


RECORD = record_of(LINES)


def told_of(line):
    """What a line tells, for a desk worked out by hand; None for no line."""
    if not isinstance(line, str):
        return None
    words = line.split(" ")
    if words[0] in ("names", "told", "depth", "whole", "open", "can", "ending", "sure", "comes", "mean"):
        many = {"depth": 0, "can": 2}.get(words[0], 1)
        names, numbers = words[1:1 + many], words[1 + many:]
        right = len(names) == many and all(name and len(name) <= 8 and name.isascii() and name.isalpha() and name.islower() for name in names)
        if words[0] == "names":
            right = right and names[0] in ("plan", "crew", "edition", "floor")
        if not right or (numbers and words[0] != "mean"):
            return None
        if not all(number.isascii() and number.isdigit() and str(int(number)) == number for number in numbers):
            return None
        return ("ask", words[0], *names, *[int(number) for number in numbers])
    try:
        return read_deed(line)
    except InvalidCommand:
        return None


def audit_by_hand(record, most):
    if not isinstance(record, (list, tuple)):
        return -1
    hand, facts = DeskByHand(most), []
    for at, row in enumerate(record):
        if type(row) is not tuple or len(row) != 3 or type(row[2]) is not tuple or not all(sheet_holds(sheet) for sheet in row[2]):
            return at
        facts += [fact for sheet in row[2] for fact in facts_of(sheet)]
        told = told_of(row[0])
        if told is None:
            return at
        _, outcome, due = hand.say(told)
        if kinds(row[1]) != kinds(outcome) or row[1] != outcome:
            return at
        for words, question in due:
            for word, asked, answer in shown_facts(words, question, outcome):
                if follows_by_hand(facts, word, asked) != answer:
                    return at
    return None


class Right(Case):
    def test_examples(self):
        desk = Desk()
        desk.say("plan p start s / end e / step t: 2 s -> 2 e")
        desk.say("depth")
        record = desk.record()
        self.exact((audit(record, 2000), audit(record + (("depth", ("told", (0, 1)), ()),), 2000)), (None, 2))

    def test_empty(self):
        self.exact((audit((), 2000), audit([], 1)), (None, None))

    def test_records_of_desks(self):
        self.exact((audit(RECORD, 2000), audit(list(RECORD), 2000), audit_by_hand(RECORD, 2000)), (None, None, None))
        for at in range(len(RECORD)):
            self.exact(self.unchanged(audit, RECORD[:at], 2000), None)
        rng = generator(330)
        for seed in range(12):
            desk, hand = Desk(MOST), DeskByHand(MOST)
            for at in range(40):
                desk.say(hand.say(opening()[at] if at < len(opening()) else some_saying(rng, hand.model))[0])
            self.exact((audit(desk.record(), MOST), audit_by_hand(desk.record(), MOST)), (None, None))

    def test_papers_that_no_desk_need_have_made(self):
        lists = least_lists(ONE)
        wider = (((-5,), (-1,), (1,)),) + lists[1:2] + (((0, 1, 1), (1, 0, 1), (2, 3, 5)),)
        line = "plan q start s / end e / step t: s -> e"
        for paper in ((lists, (("e", 7), ("s", 7)), ((), ("t",))), (wider, (("e", 1), ("s", 1)), ((), ("t",)))):
            self.exact(audit(((line, ("did", "done"), (("whole", ONE, paper),)),), 2000), None)
        stuck = read_plan("start s\nend e\nstep t: 2 s -> 2 e")
        line = "plan h start s / end e / step t: 2 s -> 2 e"
        paper = (5, heap(e=4, s=1), (("t", 2),), (heap(e=4, s=1), heap(s=1)))
        sheets = (("weights", stuck, (("e", 3), ("s", 3))), ("stuck", stuck, paper))
        self.exact(audit(((line, ("did", "stuck"), sheets),), 2000), None)
        self.exact(audit(((line, ("did", "stuck"), sheets[:1]),), 2000), 0)
        self.exact(audit(((line, ("did", "stuck"), sheets[1:]),), 2000), 0)
        # What is shown by other words: a pair that belongs and that all live steps do not end.
        other = (("in", (stuck, 3, heap(s=3)), ()), ("lost", (stuck, ("t",), 3, heap(s=3)), (heap(e=2, s=1), heap(s=3))), sheets[0])
        self.exact(audit(((line, ("did", "stuck"), other),), 2000), None)
        self.exact(audit(((line, ("did", "stuck"), other[1:]),), 2000), 0)
        grows = "plan g start s / end e / step t: s -> 2 e / step u: s -> e"
        plan = read_plan("start s\nend e\nstep t: s -> 2 e\nstep u: s -> e")
        self.exact(audit(((grows, ("did", "growing"), (("nothing", plan, (("t", 3), ("u", -3))),)),), 2000), None)
        self.exact(audit(((grows, ("did", "stuck"), (("nothing", plan, (("t", 3), ("u", -3))),)),), 2000), 0)

    def test_a_crew_shown_sure_by_what_follows(self):
        # By a crew within it, by each least heap; an edition by editions behind one another.
        quick = "plan p start s / end e / step go: s -> a / step quick: s -> e / step stop: a -> e"
        plan = read_plan(quick[7:].replace(" / ", "\n"))
        whole = sheet_for("whole", plan, 99)
        small = sheet_for("sure", (plan, ("quick", "stop")), 99)
        rows = ((quick, ("did", "done"), (whole,)), ("crew c p go quick stop", ("did", "done"), ()))
        self.exact(audit(rows + (("sure c", ("told", True), (small,)),), 99), None)
        self.exact(audit(rows + (("sure c", ("told", True), ()),), 99), 2)
        ends = tuple(sheet_for("led", (plan, ("go", "quick", "stop"), 1, papers), 99) for papers in (heap(a=1), heap(e=1), heap(s=1)))
        self.exact(audit(rows + (("sure c", ("told", True), ends),), 99), None)
        self.exact(audit(rows + (("sure c", ("told", True), ends[:2]),), 99), 2)
        # Sheets of a crew that is not sure show it of those within it.
        rows = ((quick, ("did", "done"), (whole,)), ("crew c p go", ("did", "done"), ()))
        lost = (sheet_for("lost", (plan, ("go", "quick"), 1, heap(a=1)), 99), sheet_for("in", (plan, 1, heap(a=1)), 99))
        self.exact(audit(rows + (("sure c", ("told", False), lost),), 99), None)
        self.exact(audit(rows + (("sure c", ("told", False), lost[:1]),), 99), 2)
        self.exact(audit(rows + (("sure c", ("told", False), lost[1:]),), 99), 2)

    def test_sheets_further_ahead_or_more(self):
        sheets = tuple(sheet for row in RECORD for sheet in row[2])
        ahead = ((RECORD[0][0], RECORD[0][1], sheets),) + tuple((line, outcome, ()) for line, outcome, _ in RECORD[1:])
        self.exact(audit(ahead, 2000), None)
        twice = tuple((line, outcome, own + own[::-1]) for line, outcome, own in RECORD)
        self.exact(audit(twice, 2000), None)
        # Not further behind.
        behind = tuple((line, outcome, ()) for line, outcome, _ in RECORD[:-1]) + ((RECORD[-1][0], RECORD[-1][1], sheets),)
        self.exact(audit(behind, 2000), 0)
        more = (sheet_for("live", ONE, 9), sheet_for("near", (ONE, 1, heap(s=1)), 9), sheet_for("out", (ONE, 2, heap(s=1)), 9))
        self.exact(audit((("depth", ("told", (0, 0)), more),) + RECORD[:3], 2000), None)


class Wrong(Case):
    def test_not_a_sequence(self):
        for value in ODD + (nested(80), PLAN_OBJECT, {}, b"", frozenset()):
            expected = (None if not len(value) else 0) if isinstance(value, (list, tuple)) else -1
            self.exact(audit(value, 2000), expected)

    def test_any_values_at_each_row(self):
        for value in ODD + (nested(80), PLAN_OBJECT):
            for at in (0, 7):
                row = RECORD[at]
                for other in (value, (value,) + row[1:], (row[0], value, row[2]), row[:2] + (value,), (row[0], ("did", value), row[2]),
                              (row[0], (value, "done"), row[2]), row[:2] + ((value,),), row[:2] + (row[2] + (value,),)):
                    record = RECORD[:at] + (other,) + RECORD[at + 1:]
                    self.exact(audit(record, 2000), audit_by_hand(record, 2000))

    def test_rows_that_are_no_triples(self):
        for at, row in enumerate(RECORD):
            for other in (list(row), row[:2], row + ((),), row[::-1], (row[0], row[1], list(row[2])), (row[0], list(row[1]), row[2]), None, row[0]):
                record = RECORD[:at] + (other,) + RECORD[at + 1:]
                self.exact(audit(record, 2000), at)

    def test_lines_that_a_desk_does_not_take(self):
        for line in NO_LINES[::4] + NO_ASKS[::2]:
            self.exact(audit(RECORD[:4] + ((line, ("did", "done"), ()),), 2000), 4)
            self.exact(audit(((line, ("refused", "name"), ()),), 2000), 0)

    def test_outcomes(self):
        words = ("done", "used", "name", "hangs", "growing", "stuck", "wide", "step", "carry", "living", "edition", "other", "papers", "class", "many", "lost",
                 "nothing", "sort", "costs", "", None, True, False, 0, 1, (1, 1), (0, 0))
        for at, (line, outcome, sheets) in enumerate(RECORD):
            for kind in ("did", "told", "refused"):
                for word in words[at % 2::2] + outcome[1:]:
                    other = (kind, word)
                    right = kinds(other) == kinds(outcome) and other == outcome
                    self.exact(audit(RECORD[:at] + ((line, other, sheets),), 2000), None if right else at)
            for other in changed(outcome):
                self.exact(audit(RECORD[:at] + ((line, other, sheets),), 2000), None if kinds(other) == kinds(outcome) and other == outcome else at)

    def test_a_bool_is_no_integer_there(self):
        record = RECORD[:12]
        self.exact((record[-1][0], audit(record, 2000)), ("sure c", None))
        self.exact(audit(record[:-1] + (("sure c", ("told", 1), record[-1][2]),), 2000), 11)
        self.exact(audit((("depth", ("told", (0, False)), ()),), 2000), 0)
        self.exact(audit((("depth", ("told", [0, 0]), ()),), 2000), 0)

    def test_sheets_left_out(self):
        for at, (line, outcome, sheets) in enumerate(RECORD):
            for left in range(len(sheets)):
                record = RECORD[:at] + ((line, outcome, sheets[:left] + sheets[left + 1:]),) + RECORD[at + 1:]
                self.exact(audit(record, 2000), audit_by_hand(record, 2000))
                if len(sheets) == 1 and not any(sheets[0][0] == other[0] for row in RECORD[:at] for other in row[2]) and line != "plan q start s / end e / step t: s -> e":
                    self.exact(audit(record, 2000), at)

    def test_sheets_that_do_not_hold(self):
        rng = generator(331)
        for at, (line, outcome, sheets) in enumerate(RECORD):
            for k, sheet in enumerate(sheets):
                for other in rng.sample(changed(sheet), 25):
                    record = RECORD[:at] + ((line, outcome, sheets[:k] + (other,) + sheets[k + 1:]),) + RECORD[at + 1:]
                    self.exact(audit(record, 2000), audit_by_hand(record, 2000))
                    # Also where none is due.
                    self.exact(audit((("depth", ("told", (0, 0)), (other,)),), 2000), None if sheet_holds(other) else 0)

    def test_rows_exchanged_left_out_and_twice(self):
        counts = {}
        for at in range(len(RECORD)):
            records = [RECORD[:at] + RECORD[at + 1:], RECORD[:at] + RECORD[at:at + 1] * 2 + RECORD[at + 1:]]
            records += [RECORD[:at] + RECORD[at + 1:other] + RECORD[at:at + 1] + RECORD[other:] for other in range(at + 2, len(RECORD), 3)]
            for record in records:
                expected = audit_by_hand(record, 2000)
                self.exact(audit(record, 2000), expected)
                counts[expected] = True
        self.assertGreater(len(counts), 10)

    def test_by_chance(self):
        rng = generator(332)
        counts = {}
        for seed in range(14):
            desk, hand = Desk(MOST), DeskByHand(MOST)
            for at in range(26):
                desk.say(hand.say(opening()[at] if at < len(opening()) else some_saying(rng, hand.model))[0])
            record = desk.record()
            for _ in range(10):
                at = rng.randrange(len(record))
                row = record[at]
                way = rng.randrange(4)
                if way == 0:
                    other = record[:at] + ((row[0], rng.choice(record)[1], row[2]),) + record[at + 1:]
                elif way == 1:
                    other = record[:at] + ((rng.choice(record)[0],) + row[1:],) + record[at + 1:]
                elif way == 2:
                    other = record[:at] + (row[:2] + (rng.choice(record)[2],),) + record[at + 1:]
                else:
                    other = record[:at] + (rng.choice(changed(row)),) + record[at + 1:]
                expected = audit_by_hand(other, MOST)
                self.exact(audit(other, MOST), expected)
                counts[expected] = counts.get(expected, 0) + 1
        self.assertGreater(len(counts), 10)
        self.assertGreater(counts[None], 10)

    def test_most(self):
        wide = "plan w start s / end e / step a: s -> a / step b: a -> b / step c: b -> c / step d: c -> d / step f: d -> f / step g: f -> e"
        for most in (1, 6, 7, 4000):
            record = record_of((wide, "crew c w a b c d f g", "floor f w", "put f 2", "end f c"), most)
            for other in (1, 6, 7, 27, 28, 4000):
                self.exact(audit(record, other), audit_by_hand(record, other))
            self.exact(audit(record, most), None)
        self.exact(record_of((wide,), 6), ((wide, ("did", "wide"), ()),))
        self.exact(audit(record_of((wide,), 7), 6), 0)
        # What is wide is so by walking, whatever sheets are there.
        sheet = record_of((wide,), 7)[0][2]
        self.exact(audit(((wide, ("did", "wide"), sheet),), 6), None)
        self.exact(audit(((wide, ("did", "wide"), sheet),), 7), 0)
        self.exact(audit(((wide, ("did", "done"), sheet),), 6), 0)
        record = record_of((wide, "crew c w a b c d f g", "floor f w", "put f 2", "end f c"), 27)
        self.exact((record[-1][1], audit(record, 27), audit(record, 28)), (("did", "many"), None, 4))

    def test_nothing_false_ahead_of_it(self):
        # A false sheet is none: no record shows what is not so.
        line = "plan h start s / end e / step t: 2 s -> 2 e"
        stuck = Plan(("e", "s"), (("t", heap(s=2), heap(e=2)),), "s", "e")
        whole = ("whole", stuck, (least_lists(stuck), (("e", 1), ("s", 1)), ((), ("t",))))
        self.exact(audit(((line, ("did", "done"), (whole,)),), 2000), 0)
        self.exact(audit(((line, ("did", "done"), ()),), 2000), 0)
        self.exact(audit((("plan q start s / end e / step t: s -> e", ("did", "stuck"), ()),), 2000), 0)
        self.exact(audit((("plan q start s / end e / step t: s -> e", ("did", "done"), ()),), 2000), 0)

    def test_greatest(self):
        lines = list(LINES[:16]) + ["put f 1"] * 12 + ["step f c", "undo", "redo", "depth"] * 3
        record = record_of(lines)
        self.exact(len(record), 40)
        plan = "plan z start s / end e / step a: s -> b, c / step d: b -> f / step g: c -> h / step i: f, h -> e / step j: b, h -> e / step k: c, f -> e / step l: s -> m / step n: m -> e"
        great = record_of([plan, "crew y z a d g i l n", "sure y", "crew x z a d", "sure x", "mean z 1 2 3 4 5 6 7 8"])
        for _ in range(10):
            self.exact((audit(record, 2000), audit(great, 2000), audit(great + (("depth", ("told", (3, 1)), ()),), 2000)), (None, None, 6))


PLAN_OBJECT = ONE


if __name__ == "__main__":
    unittest.main()
