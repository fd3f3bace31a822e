"""[81]: the lines of deeds."""

import unittest

from caseshome.commands import deed_line, read_deed
from caseshome.errors import InvalidCommand
from tests.deeds import LINES, PLAN
from tests.helpers import LETTERS, ODD, Case, as_heap, generator, great_plan, nested, random_plan

# Lines that are nearly one.
NO_LINES = (
    "", " ", "Undo", "undo ", " undo", "undo\n", "undo undo", "undo 1", "redo ", "un do", "a", "undo;", "undo; redo",
    "drop", "drop ", "drop  n", "drop n ", "drop N", "drop n1", "drop n m", "drop abcdefghi", "drop 1", "drop n\n", "drop\tn",
    "put f", "put f 0", "put f 03", "put f -1", "put f +1", "put f 1 ", "put f  1", "put 1 f", "put f 1 1", "put f one", "put f 1.0",
    "put f \u0663", "put f \u00b2", "put f 1_0", "put 3", "put f ", "put F 3", "put f 3\n", "put f 0x3",
    "step f", "step f c 1 t", "step f c 0 t", "step f c 02 t", "step f c 2", "step f c 2 3 t", "step f c t 2", "step f c  t", "step f c t ",
    "step f c 2t", "step f c 2 t,", "step f c t;", "step f c T", "step f c -2 t", "step f 2 t", "step 2 f c t",
    "off", "off f 1 a", "off f b a", "off f a a", "off f 0 a", "off f a,", "off f a, b", "off f 2", "off f a ", "off f  a", "off f 2 a 3",
    "lay f", "lay f a", "lay f 00", "lay f 01 a", "lay f 1 1 a", "lay f 1 2", "lay f 1 b a", "lay f -1", "lay f 1 a 2", "lay f 1  a",
    "carry f", "carry f e e", "carry f 1", "end f", "end f c c", "end f  c", "floor f", "floor f p p", "floor f P",
    "crew c", "crew c p b a", "crew c p a a", "crew c p 2 a", "crew c p a,", "crew c p ", "crew c p a b ", "crew c  p a",
    "edition e p", "edition e p q r", "edition e p q,", "edition e p q, ", "edition e p q, a", "edition e p q, a = ", "edition e p q, = b",
    "edition e p q, a =b", "edition e p q,a = b", "edition e p q, a = 1 b", "edition e p q, a = c b", "edition e p q, a = b b",
    "edition e p q, a = 2", "edition e p q, a = b,", "edition e p q, a = b, ", "edition e p q,, a = b", "edition e p q, a == b",
    "edition e p q, a = b c = d", "edition e p q a = b", "edition e p q, A = b", "edition e p, q, a = b", "edition e p q, a  = b",
    "edition e p q, a = 02 b", "edition e p q, a b = c", "edition e p q; a = b",
    "plan p", "plan p ", "plan p start s", "plan p start s / end s", "plan p start s/ end e", "plan p start s / end e / ", "plan p start s / end e /",
    "plan p start s\nend e", "plan p start s / end e\nplace q", "plan p  start s / end e", "plan p start s / end e / place e",
    "plan p start s / end e / step t: s -> s", "plan p start s / end e / step t: 1 s -> e", "plan p start s / end e / step u: s -> e / step t: s -> e",
    "plan p start s / end e /  place q", "plan p end e / start s", "plan P start s / end e", "plan start s / end e", "plan p start s / / end e",
    "plan p start s / end e / place r / place q", "plan p q start s / end e", "plan p start s / end e ", "plan p start s /end e",
    "all ", "all  put f 1", "all put f 1;", "all put f 1; ", "all put f 1;put f 1", "all put f 1 ; put f 1", "all ; put f 1", "all put f 0",
    "all undo", "all redo", "all all", "all all put f 1", "all put f 1; all", "all put f 1; undo", "all put f 1; drop", "All put f 1",
    "all put f 1; all put f 1; put f 1", "all drop n\n", "batch", "batch put f 1", "all  ", "all put f 1;; put f 1",
)


class Lines(Case):
    def test_examples(self):
        deed = ("batch", (("put", "day", 3), ("step", "day", "crew", (("make", 2), ("send", 1)))))
        self.exact(deed_line(deed), "all put day 3; step day crew 2 make send")
        self.exact(read_deed("edition e p q, a = 2 b c, d ="), ("edition", "e", "p", "q", (("a", (("b", 2), ("c", 1))), ("d", ()))))
        self.refused(InvalidCommand, {}, read_deed, "step f c 1 t")

    def test_there_and_back(self):
        for deed, line in LINES:
            self.exact(self.unchanged(deed_line, deed), line)
            self.exact(read_deed(line), deed)
            self.tuples_within(read_deed(line))

    def test_by_chance(self):
        rng = generator(160)
        lines = {}
        for _ in range(400):
            deed = some_deed(rng, True)
            line = deed_line(deed)
            self.exact(read_deed(line), deed)
            self.exact(lines.setdefault(line, deed), deed)

    def test_lines_that_are_nearly_one(self):
        for line in NO_LINES:
            self.refused(InvalidCommand, {}, read_deed, line)

    def test_a_sign_less_more_or_another(self):
        # Whatever such a line tells, it tells it back.
        read = 0
        for deed, line in LINES:
            if len(line) > 200:
                continue
            for at in range(len(line) + 1):
                changed = [line[:at] + sign + line[at:] for sign in " 1a;,/=\n"]
                changed += [line[:at] + sign + line[at + 1:] for sign in " 0b;,/A"] + [line[:at] + line[at + 1:]]
                for other in changed:
                    try:
                        told = read_deed(other)
                    except InvalidCommand:
                        continue
                    read += 1
                    self.exact(deed_line(told), other)
                    self.exact(told == deed, other == line)
        self.assertGreater(read, 300)

    def test_any_values(self):
        for value in ODD + (nested(80), PLAN, b"undo", ("undo",), ["undo"], 10 ** 3999):
            self.refused(InvalidCommand, {}, read_deed, value)

    def test_great_lines(self):
        plan = great_plan()
        many = ("batch", tuple(("put", "abcdefgh", 10 ** 12) for _ in range(16)))
        rows = ("step", "abcdefgh", "ijklmnop", tuple(("stepabc" + LETTERS[k % 14], 10 ** 11) for k in range(150)))
        carry = ("edition", "e", "p", "q", tuple((place, tuple((to, 9) for to in plan.places)) for place in plan.places))
        for _ in range(40):
            for deed in (("plan", "p", plan), many, rows, carry):
                line = deed_line(deed)
                self.assertLess(len(line), 4000)
                self.exact(read_deed(line), deed)
        # More figures than Python itself tells at once.
        for number in (10 ** 5000, 10 ** 64, 10 ** 64 - 1, 10 ** 128 - 1, 10 ** 128 + 7, 10 ** 65):
            self.exact(read_deed(deed_line(("put", "f", number))), ("put", "f", number))
        self.exact(deed_line(("put", "f", 10 ** 64 + 5)), "put f 1" + "0" * 63 + "5")
        self.refused(InvalidCommand, {}, read_deed, "put f 0" + "1" * 5000)


def some_name(rng):
    return "".join(rng.choice(LETTERS) for _ in range(rng.randint(1, 8)))


def some_heap(rng):
    return as_heap({some_name(rng): rng.choice((1, 2, 10 ** 12)) for _ in range(rng.randint(0, 3))})


def some_deed(rng, batches):
    word = rng.choice(("plan", "crew", "edition", "floor", "put", "step", "off", "carry", "lay", "end", "drop") + ("batch", "undo", "redo") * batches)
    names = [some_name(rng) for _ in range(3)]
    if word == "plan":
        return word, names[0], random_plan(rng)
    if word == "crew":
        return word, names[0], names[1], tuple(sorted({some_name(rng) for _ in range(rng.randint(0, 4))}))
    if word == "edition":
        return (word, *names, tuple((some_name(rng), some_heap(rng)) for _ in range(rng.randint(0, 3))))
    if word == "put":
        return word, names[0], rng.choice((1, 2, 10 ** 12))
    if word == "step":
        return word, names[0], names[1], tuple((some_name(rng), rng.choice((1, 1, 7))) for _ in range(rng.randint(0, 4)))
    if word == "off":
        return word, names[0], some_heap(rng)
    if word == "lay":
        return word, names[0], rng.choice((0, 1, 10 ** 12)), some_heap(rng)
    if word in ("floor", "carry", "end"):
        return word, names[0], names[1]
    if word == "drop":
        return word, names[0]
    if word == "batch":
        return word, tuple(some_deed(rng, False) for _ in range(rng.randint(0, 4)))
    return (word,)


if __name__ == "__main__":
    unittest.main()
