"""[9]: the texts of plans."""

import re
import unittest

from caseshome.errors import InvalidText
from caseshome.plans import Plan
from caseshome.plantext import plan_text, read_plan
from tests.helpers import ODD, Case, generator, great_plan, nested, plan_of, random_plan

TEXT = "start a\nend c\nplace d\nplace x\nstep t: 2 a -> 3 b, c\nstep u: b, 9 f -> f"


PAPERS = r"(?:[2-9] )?[a-z]{1,8}(?:, (?:[2-9] )?[a-z]{1,8})*"
SHAPES = (r"start ([a-z]{1,8})", r"end ([a-z]{1,8})", r"place ([a-z]{1,8})", rf"step ([a-z]{{1,8}}): ({PAPERS}) -> ({PAPERS})")


def names_in(papers):
    return [words.split(" ")[-1] for words in papers.split(", ")]


def fault_by_hand(text):
    """The number of the first line that no text of a plan has there, by all lines ahead of it; None for a text."""
    lines = text.split("\n")
    start, end, places, steps = None, None, [], []
    for at, line in enumerate(lines):
        sort = 0 if at == 0 else 1 if at == 1 else 2 if line.startswith("place") else 3
        match = re.fullmatch(SHAPES[sort], line)
        if match is None:
            return at
        told = match.groups()
        if sort == 0:
            start = told[0]
        elif sort == 1:
            end = told[0]
            if end == start:
                return at
        elif sort == 2:
            if steps or told[0] in (start, end) or (places and places[-1] >= told[0]):
                return at
            places.append(told[0])
        else:
            take, lay = names_in(told[1]), names_in(told[2])
            ascending = all(names == sorted(set(names)) for names in (take, lay))
            if not ascending or end in take or start in lay or (steps and steps[-1] >= told[0]) or set(take + lay) & set(places):
                return at
            steps.append(told[0])
    return 1 if len(lines) == 1 else None


class Texts(Case):
    def wrong(self, text, at):
        self.refused(InvalidText, {"at": at}, read_plan, text)
        self.refused(InvalidText, {"at": at}, read_plan, text=text)

    def test_examples(self):
        plan = Plan(("a", "b", "c", "d"), (("t", (("a", 2),), (("b", 3), ("c", 1))),), "a", "c")
        self.exact(plan_text(plan), "start a\nend c\nplace d\nstep t: 2 a -> 3 b, c")
        self.wrong("start a\nend b\nplace c\nstep t: a -> c", 3)

    def test_texts(self):
        self.exact(plan_text(Plan(("a", "b"), (), "b", "a")), "start b\nend a")
        plan = read_plan(TEXT)
        self.exact((plan.places, plan.start, plan.end), (("a", "b", "c", "d", "f", "x"), "a", "c"))
        self.exact(plan.steps, (("t", (("a", 2),), (("b", 3), ("c", 1))), ("u", (("b", 1), ("f", 9)), (("f", 1),))))
        self.exact(plan_text(plan), TEXT)

    def test_there_and_back(self):
        rng = generator(5)
        plans = [random_plan(rng, rng.randint(2, 8), rng.randint(0, 6), 9, 3) for _ in range(200)]
        for plan in plans + [great_plan(), plan_of(""), plan_of("", places=("a", "z"))]:
            text = plan_text(plan)
            self.assertTrue(read_plan(text) == plan)
            self.exact(plan_text(read_plan(text)), text)

    def test_no_string(self):
        for value in ODD + (nested(80), [TEXT], (TEXT,)):
            if not isinstance(value, str):
                self.wrong(value, -1)

    def test_wrong_lines(self):
        lines = TEXT.split("\n")
        bad = (("", "start", "start ", "start  a", "start A", "start a ", " start a", "start abcdefghi", "end a", "start a b",
                "Start a", "start a\r", "starta"),
               ("", "end", "end ", "end a", "end C", "end  c", "end c ", "start b", "place d", "step t: a -> c", "end c d"),
               ("", "place", "place ", "place a", "place c", "place D", "place  d", "place d ", "step", "end d", "start d"),
               ("", "place d", "place c", "place a", "place da ", "placed"),
               ("", "step t", "step t:", "step t: ", "step t: a", "step t: a ->", "step t: a -> ", "step t:a -> b",
                "step t: a->b", "step t: a -> b ", "step t:  a -> b", "step t: a  -> b", "step t: a ->  b", " step t: a -> b",
                "step T: a -> b", "step : a -> b", "step t: 1 a -> b", "step t: 10 a -> b", "step t: 0 a -> b",
                "step t: -2 a -> b", "step t: 02 a -> b", "step t: 2  a -> b", "step t: 2a -> b", "step t: a 2 -> b",
                "step t: b, a -> c", "step t: a, a -> c", "step t: a,b -> c", "step t: a , b -> c", "step t: a, -> c",
                "step t: , a -> c", "step t: a -> c, b", "step t: a -> b -> c", "step t: -> b", "step t:  -> b",
                "step t: a -> a", "step t: a -> a, b", "step t: c -> b", "step t: a, c -> b", "step t: d -> b",
                "step t: a -> x", "step t: a -> b, d", "step t: A -> b", "step t u: a -> b", "step abcdefghi: a -> b",
                "step t: 2 3 a -> b", "step t: x a -> b", "step t: a -> 2", "step t: \u0662 a -> b", "step t: a -> b\r", "place y: a -> b"),
               ("step t: a -> b", "step s: a -> b", "place z", "", "step u", "end c", "start a", "step u: c -> b"))
        for at, texts in enumerate(bad):
            for text in texts:
                self.wrong("\n".join(lines[:at] + [text]), at)
                self.wrong("\n".join(lines[:at] + [text] + lines[at + 1:]), at)
                self.wrong("\n".join(lines[:at] + [text, "nonsense"]), at)

    def test_greater_than_the_one_ahead(self):
        self.wrong("start s\nend e\nplace b\nplace f\nplace d", 4)
        self.wrong("start s\nend e\nstep b: s -> e\nstep f: s -> e\nstep d: s -> e", 4)
        self.wrong("start s\nend e\nstep b: s -> e\nstep f: s -> e\nstep f: s -> e", 4)

    def test_what_lacks(self):
        self.wrong("", 0)
        self.wrong("start a", 1)
        self.wrong("start a\n", 1)
        self.wrong("start a\nend b\n", 2)
        self.wrong(TEXT + "\n", 6)
        self.wrong("\n" + TEXT, 0)

    def test_every_text_is_just_one(self):
        rng = generator(6)
        for _ in range(300):
            text = TEXT
            at = rng.randrange(len(text))
            text = text[:at] + rng.choice(["", "a", " ", "2", ",", "\n", "-", ">", ":", "z"]) + text[at + rng.randint(0, 1):]
            try:
                self.exact(plan_text(read_plan(text)), text)
            except InvalidText as error:
                lines = text.split("\n")
                self.assertIn(error.at, range(len(lines) + 1))
                if error.at > 1:
                    self.exact(plan_text(read_plan("\n".join(lines[:error.at]))), "\n".join(lines[:error.at]))

    def test_by_hand(self):
        rng = generator(7)
        counts = {}
        texts = [plan_text(random_plan(rng, rng.randint(2, 8), rng.randint(0, 6), 9, 3)) for _ in range(60)] + [TEXT]
        for _ in range(4000):
            lines = rng.choice(texts).split("\n")
            for _ in range(rng.randint(1, 2)):
                self.spoil(rng, lines, texts)
            text = "\n".join(lines)
            at = fault_by_hand(text)
            if at is None:
                self.exact(plan_text(read_plan(text)), text)
            else:
                self.wrong(text, at)
            counts[at] = counts.get(at, 0) + 1
        self.assertTrue(all(counts.get(at, 0) > 30 for at in (None, 0, 1, 2, 3, 4, 5)))

    def spoil(self, rng, lines, texts):
        """A line more, or less, or in another place, or of another text, or with another sign."""
        if not lines:
            return
        at, kind = rng.randrange(len(lines)), rng.randrange(6)
        if kind == 0:
            lines.insert(at, rng.choice(rng.choice(texts).split("\n")))
        elif kind == 1:
            lines.pop(at)
        elif kind == 2:
            other = rng.randrange(len(lines))
            lines[at], lines[other] = lines[other], lines[at]
        elif kind == 3:
            lines[at] = rng.choice(rng.choice(texts).split("\n"))
        elif lines[at]:
            sign = rng.randrange(len(lines[at]))
            more = rng.choice(["", "a", " ", "2", "1", ",", "-", ">", ":", "z", ", ", "9 "])
            lines[at] = lines[at][:sign] + more + lines[at][sign + rng.randint(0, 1):]


if __name__ == "__main__":
    unittest.main()
