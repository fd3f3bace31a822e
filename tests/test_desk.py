"""[82] and [83]: desks, and what they keep of what was said."""

import unittest

from caseshome.audit import audit
from caseshome.commands import deed_line
from caseshome.court import Unsure
from caseshome.desk import Desk, run_lines
from caseshome.errors import InvalidCommand, InvalidSize
from caseshome.facts import facts_of
from caseshome.follows import told_by
from caseshome.houseruns import house_after, same_house
from caseshome.sheets import sheet_holds
from tests.deeds import LINES, PLAN
from tests.deskhand import DeskByHand, due_key, is_due, some_saying
from tests.helpers import ODD, Case, generator, heap, nested
from tests.somedeeds import LINE, MOST, opening
from tests.test_commands import NO_LINES

MADE = ("plan p start s / end e / step t: s -> a / step u: a -> e", "crew c p t u", "floor f p", "put f 5", "step f c 2 t")
FULL = MADE + ("plan q start s / end e / step t: s -> 2 a / step u: 2 a -> e", "crew d q t", "floor g q", "edition x p q, a = s, e = e, s = s")
# Lines that ask, nearly.
NO_ASKS = ("names", "names ", "names plans", "names p", "names plan plan", "Names plan", "names  plan", "names plan ", "told", "told ", "told p q", "told P",
           "told p1", "told abcdefghi", "told p ", " told p", "told  p", "depth ", "depth p", " depth", "Depth", "depth 1", "whole", "whole p q", "whole 1",
           "whole p 1", "open", "open f f", "open f 1", "can f", "can f c c", "can f ", "can", "can f 1", "can f c 1", "ending", "ending f 1", "ending f ",
           "sure", "sure c d", "sure c 1", "comes", "comes f f", "mean", "mean 3 4", "mean p 3,4", "mean p 03 4", "mean p -1 4", "mean p 3  4", "mean p 3 4 ",
           "mean p ", "mean p x", "mean p 3 x", "mean p +3 4", "mean p 1_0 4", "mean p \u0663 4", "mean p 3.0 4", "mean P 3 4", "house", "record", "say depth",
           "carries f", "roads f", "near f", "told\tp", "names\nplan", "depth\n", "all depth", "all told p", "whole p; whole p")


class Saying(Case):
    def test_examples(self):
        self.exact(run_lines(MADE + ("ending f", "open f", "sure c", "mean p 3 4", "told f", "can f p"), 2000)[5:],
                   (("told", "2 u 3 t 3 u"), ("told", 5), ("told", True), ("told", (7, 1)), ("told", "lay f 5 2 a 3 s"), ("refused", "sort")))
        desk = Desk()
        said = (desk.say("plan p start s / end e / step t: 2 s -> 2 e"), desk.say("depth"))
        record = desk.record()
        self.exact((said, audit(record, 2000), audit(record + (("depth", ("told", (0, 1)), ()),), 2000)), ((("did", "stuck"), ("told", (0, 0))), None, 2))

    def test_to_which_nothing_was_said(self):
        desk = Desk()
        self.exact((desk.record(), desk.most, desk.house().depth(), run_lines((), 7), run_lines([], 7)), ((), 2000, (0, 0), (), ()))
        self.exact(run_lines(["names plan", "names crew", "names edition", "names floor", "depth", "undo", "redo"], 1),
                   (("told", ()),) * 4 + (("told", (0, 0)), ("did", "nothing"), ("did", "nothing")))

    def test_each_word_that_asks(self):
        desk = Desk()
        for line in FULL:
            self.exact(desk.say(line), ("did", "done"))
        for line, outcome in (("names plan", ("p", "q")), ("names crew", ("c", "d")), ("names edition", ("x",)), ("names floor", ("f", "g")), ("depth", (9, 0)),
                              ("told p", MADE[0]), ("told c", MADE[1]), ("told x", FULL[-1]), ("told f", "lay f 5 2 a 3 s"), ("told g", "lay g 0"),
                              ("told d", "crew d q t"), ("whole p", 3), ("whole q", 3), ("open f", 5), ("open g", 0), ("can f c", ("t", "u")),
                              ("can g d", ()), ("ending f", "2 u 3 t 3 u"), ("ending g", ""), ("sure c", True), ("sure d", False), ("comes f", True),
                              ("comes g", True), ("mean p 3 4", (7, 1)), ("mean p 0 0", (0, 1)), ("mean q 1 999999", (1000000, 1))):
            self.exact(desk.say(line), ("told", outcome))
        self.exact(len(desk.record()), len(FULL) + 26)

    def test_what_is_told_as_a_line_is_one(self):
        desk = Desk()
        for line in FULL + ("step f c 2 u", "lay g 1 2 a"):
            desk.say(line)
        other = Desk()
        for line in ("told p", "told c", "told q", "told x"):
            self.exact(other.say(desk.say(line)[1]), ("did", "done"))
        other.say("floor f p")
        other.say("floor g q")
        for line in ("told f", "told g"):
            self.exact(other.say(desk.say(line)[1]), ("did", "done"))
        for name in "pcqxfg":
            self.exact(other.say("told " + name), desk.say("told " + name))
        # The ending as the rows of a step line.
        self.exact(desk.say("step f c " + desk.say("ending f")[1]), ("did", "done"))
        self.exact((desk.say("ending f"), desk.say("open f")), (("told", ""), ("told", 0)))

    def test_refusals_in_order(self):
        desk = Desk()
        for line in FULL:
            desk.say(line)
        before = len(desk.record())
        lines = {"name": ("told n", "whole n", "open n", "can n c", "can f n", "can p n", "can n p", "can n n", "ending n", "sure n", "comes n", "mean n", "mean n 1 2",
                          "can d n", "can n f"),
                 "sort": ("whole c", "whole x", "whole f", "open p", "open c", "open x", "can p c", "can f p", "can c f", "can f f", "can c c", "can x d",
                          "ending p", "ending x", "sure p", "sure f", "sure x", "comes c", "comes p", "mean c", "mean f 1 2", "mean x 1", "mean c 3 4"),
                 "other": ("can f d", "can g c"),
                 "costs": ("mean p", "mean p 1", "mean p 1 2 3", "mean q", "mean q 0 0 0 0")}
        many = 0
        for word, told in lines.items():
            for line in told:
                self.exact(desk.say(line), ("refused", word))
                many += 1
        # They change nothing, but they were said.
        self.exact((len(desk.record()), desk.house().depth()), (before + many, (9, 0)))
        for row in desk.record()[before:]:
            self.exact(row[2], ())

    def test_anything_else(self):
        desk = Desk()
        for line in FULL:
            desk.say(line)
        before, house = desk.record(), desk.house()
        for line in NO_ASKS + NO_LINES + ODD + (nested(80), PLAN, b"depth", ("depth",), ["depth"], 10 ** 3999):
            self.refused(InvalidCommand, {}, desk.say, line)
        self.assertTrue(desk.record() == before)
        self.assertTrue(same_house(desk.house(), house))
        self.refused(InvalidCommand, {}, run_lines, ("depth", "depths"), 9)

    def test_lines_of_deeds(self):
        for deed, line in LINES:
            self.exact(Desk().say(line), ("did", house_after([], 2000).do(deed)))

    def test_most(self):
        for most in (0, 4001, True, None, "9"):
            self.refused(InvalidSize, {"word": "most"}, Desk, most)
            self.refused(InvalidSize, {"word": "most"}, run_lines, ("depth",), most)
        self.exact((Desk(1).most, Desk(most=4000).most, Desk(4000).house().most), (1, 4000, 4000))
        self.exact(run_lines(MADE[:1], 1), (("did", "wide"),))
        self.exact(run_lines(MADE[:1], 4000), (("did", "done"),))

    def test_the_house_is_a_twin(self):
        desk = Desk()
        for line in MADE:
            desk.say(line)
        house = desk.house()
        house.do(("drop", "f"))
        self.exact((desk.say("names floor"), house.names("floor")), (("told", ("f",)), ()))
        desk.say("drop c")
        self.exact(house.names("crew"), ("c",))

    def test_great_numbers(self):
        desk = Desk()
        for line in MADE[:3] + ("put f 1" + "0" * 3980,):
            self.exact(desk.say(line), ("did", "done"))
        self.exact(desk.say("told f"), ("told", "lay f 1" + "0" * 3980 + " 1" + "0" * 3980 + " s"))
        self.exact(desk.say("ending f")[1][:3], "100")
        self.refused(InvalidCommand, {}, desk.say, "mean p 0" + "1" * 3000 + " 2")
        self.exact(desk.say("mean p 1" + "0" * 3000 + " 0"), ("told", (10 ** 3000, 1)))


class Records(Case):
    def check_row(self, row, line, outcome, due, before, facts):
        """Whether a row is as due, with sheets for what was not due before."""
        self.exact(row[:2], (line, outcome))
        self.exact((type(row), len(row), type(row[2])), (tuple, 3, tuple))
        for sheet in row[2]:
            self.exact(sheet_holds(sheet), True)
            facts.extend(facts_of(sheet))
        for words, question in due:
            own = [sheet[0] for sheet in row[2] if sheet[0] in words and is_due(sheet, question)]
            if due_key(words, question) not in before:
                for word in words:
                    self.assertIn(word, own)
            else:
                self.assertIn(tuple(sorted(set(own))), ((), tuple(sorted(words))))
        # Nothing else is there.
        for sheet in row[2]:
            self.assertTrue(any(sheet[0] in words and is_due(sheet, question) for words, question in due))
        before.extend(due_key(words, question) for words, question in due)

    def test_by_chance(self):
        seen = {}
        for seed in range(300, 330):
            rng = generator(seed)
            desk, hand, before, facts = Desk(MOST), DeskByHand(MOST), [], []
            for at in range(60):
                told = opening()[at] if at < len(opening()) else some_saying(rng, hand.model)
                line, outcome, due = hand.say(told)
                self.exact(desk.say(line), outcome)
                row = desk.record()[-1]
                self.check_row(row, line, outcome, due, before, facts)
                for words, question in due:
                    seen[words] = seen.get(words, 0) + 1
                    for word, asked, answer in shown_facts(words, question, outcome):
                        self.exact(told_by(facts, word, asked), answer)
                seen[told[1] if told[0] == "ask" else told[0]] = True
                if outcome[0] == "refused":
                    seen[outcome] = True
            self.exact(len(desk.record()), 60)
            self.exact(audit(desk.record(), MOST), None)
        for words in (("whole",), ("nothing",), ("stuck", "weights"), ("edition",), ("no edition",), ("sure",), ("lost", "in"), ("mean",)):
            self.assertGreater(seen.get(words, 0), 1, words)
        for word in ("names", "told", "depth", "open", "can", "ending", "comes", "mean", "batch", "undo", "redo"):
            self.assertIn(word, seen)
        for word in ("name", "sort", "other", "costs"):
            self.assertIn(("refused", word), seen)

    def test_sheets_of_each_line(self):
        desk = Desk(9)
        for line, words in (
                (MADE[0], ["whole"]), ("plan g start s / end e / step t: s -> a / step u: a -> 2 a / step v: a -> e", ["nothing"]),
                ("plan h start s / end e / step t: 2 s -> 2 e", ["stuck", "weights"]),
                ("plan w start s / end e / step a: s -> a / step b: a -> b / step c: b -> c / step d: c -> d / step f: d -> f / step g: f -> g / step h: g -> h"
                 " / step i: h -> i / step j: i -> e", []),
                ("plan p start s / end e", []), ("plan q start s / end e / step t: s -> e", ["whole"]), ("crew c p t u", []), ("crew d p u", []),
                ("crew n p z", []), ("edition x p q, a = s, e = e, s = s", ["edition"]), ("edition y p q, a = 2 s, e = e, s = s", ["no edition"]),
                ("edition y p q, a = s, e = e", []), ("edition y p n", []), ("floor f p", []), ("put f 3", []), ("step f c t", []), ("end f c", []),
                ("undo", []), ("redo", []), ("depth", []), ("sure c", ["sure"]), ("sure d", ["lost", "in"]), ("sure n", []), ("mean p 1 2", ["mean"]),
                ("mean p 1", []), ("comes f", []), ("whole p", []), ("told p", []), ("ending f", []),
                ("all plan r start s / end e / step z: s -> e; edition z r q, e = e, s = s; drop n; plan v start s / end e", ["whole", "edition"]),
                ("all plan v start s / end e / step t: 3 s -> 3 e; drop n", ["stuck", "weights"]),
                ("all plan v start s / end e / step k: s -> e; floor v q", ["whole"])):
            desk.say(line)
            self.exact((line, [sheet[0] for sheet in desk.record()[-1][2]]), (line, words))
        self.exact(audit(desk.record(), 9), None)

    def test_what_was_due_before(self):
        desk = Desk()
        for line in MADE + ("sure c", "mean p 3 4"):
            desk.say(line)
        for line in ("plan q" + MADE[0][6:], "crew d q t u", "sure d", "sure c", "mean q 3 4", "mean p 3 4", "undo", "redo"):
            desk.say(line)
            self.exact(desk.record()[-1][2], ())
        # Other costs, another crew, another plan are due anew.
        for line, word in (("mean p 4 3", "mean"), ("plan r start s / end e / step t: s -> e", "whole")):
            desk.say(line)
            self.exact([sheet[0] for sheet in desk.record()[-1][2]], [word])
        self.exact(audit(desk.record(), 2000), None)

    def test_two_desks_that_hear_the_same_lines(self):
        rng = generator(313)
        hand, lines = DeskByHand(MOST), []
        for at in range(50):
            told = opening()[at] if at < len(opening()) else some_saying(rng, hand.model)
            lines.append(hand.say(told)[0])
        one, other = Desk(MOST), Desk(MOST)
        for line in lines:
            one.say(line)
        for line in lines:
            # What was said between, with an error, counts for nothing.
            self.assertRaises(InvalidCommand, other.say, line + " ")
            other.say(line)
        self.assertTrue(one.record() == other.record())
        self.assertTrue(same_house(one.house(), other.house()))
        self.exact(run_lines(lines, MOST), tuple(row[1] for row in one.record()))
        self.exact(run_lines(tuple(lines), MOST), run_lines(lines, MOST))

    def test_records_stay(self):
        desk = Desk()
        kept = []
        for line in FULL:
            desk.say(line)
            kept.append(desk.record())
        for at, record in enumerate(kept):
            self.exact(len(record), at + 1)
            self.tuples_within(tuple(row[:2] for row in record))
            self.assertTrue(record == desk.record()[:at + 1])

    def test_a_crew_that_is_not_sure(self):
        desk = Desk()
        for line in MADE[:1] + ("crew d p u", "sure d"):
            desk.say(line)
        lost, inside = desk.record()[-1][2]
        found = desk.house().sure_now("d")
        self.assertIs(type(found), Unsure)
        self.assertTrue(lost == ("lost", (lost[1][0], ("u",), 1, heap(s=1)), (heap(s=1),)))
        self.exact((inside[0], inside[1][1:], inside[2]), ("in", (1, heap(s=1)), ()))

    def test_lines_of_all_deeds_in_a_row(self):
        desk = Desk()
        for deed in opening():
            self.exact(desk.say(deed_line(deed)), ("did", "done"))
        self.assertTrue(same_house(desk.house(), house_after(opening(), 2000)))
        self.assertTrue(desk.house().told("p")[1] == LINE)


def shown_facts(words, question, outcome):
    """The facts that the sheets with these words have to show."""
    if words == ("whole",):
        return (("whole", question, True),)
    if words == ("nothing",):
        return ("whole", question, False), ("weights", question, False)
    if words == ("stuck", "weights"):
        return ("whole", question, False), ("weights", question, True)
    if words in (("edition",), ("no edition",)):
        return (("edition", question, words == ("edition",)),)
    return (("mean" if words == ("mean",) else "sure", question, outcome[1]),)


if __name__ == "__main__":
    unittest.main()
