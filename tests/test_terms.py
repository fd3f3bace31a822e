"""[50] to [52]: terms, their plans and their texts."""

import unittest

from caseshome.court import Whole, verdict
from caseshome.errors import InvalidTerm, InvalidText
from caseshome.joining import again, behind, beside, either
from caseshome.lists import least_heaps
from caseshome.plans import names_of
from caseshome.plantext import plan_text, read_plan
from caseshome.terms import need_term, plan_of, read_term, runs_of, shape_numbers, term_heaps, term_text
from tests.helpers import LETTERS, ODD, Case, generator, nested
from tests.search import end_by_hand, live_of, walk_by_hand


def step(name):
    return ("step", name)


A, B, C = step("a"), step("b"), step("c")
BRANCH = ("row", (A, ("beside", "f", "j", (B, C))))


class Fresh:
    """Names of steps, none twice, in no order."""

    def __init__(self, rng):
        self.names = [one + two for one in LETTERS for two in LETTERS[:4]] + list(LETTERS)
        rng.shuffle(self.names)

    def name(self):
        return self.names.pop()


def random_term(rng, depth, fresh=None):
    fresh = fresh or Fresh(rng)
    kind = rng.choice(("step", "row", "either", "beside", "again")) if depth else "step"
    if kind == "step":
        return ("step", fresh.name())
    if kind == "again":
        return ("again", fresh.name(), fresh.name(), fresh.name(), random_term(rng, depth - 1, fresh))
    terms = tuple(random_term(rng, depth - 1, fresh) for _ in range(rng.randint(2, 3)))
    if kind == "beside":
        return ("beside", fresh.name(), fresh.name(), terms)
    return (kind, terms)


def small_term(rng, places=10, heaps=40):
    """A term whose plan is within the limits."""
    while True:
        term = random_term(rng, 3)
        told = shape_by_hand(term)
        if told[0] <= places and told[1] <= 14 and told[2] <= heaps:
            return term


def inner(term):
    return () if term[0] == "step" else (term[-1],) if term[0] == "again" else term[-1]


def shape_by_hand(term):
    """Places, steps and least heaps: those of a term that are not its own start and end, by its sort."""
    def within(one):
        numbers = [within(part) for part in inner(one)]
        if one[0] == "step":
            return 0, 1, 0
        if one[0] == "row":
            return [sum(column) + more for column, more in zip(zip(*numbers), (len(numbers) - 1, 0, len(numbers) - 1))]
        if one[0] == "either":
            return [sum(column) for column in zip(*numbers)]
        if one[0] == "again":
            return [numbers[0][0] + 2, numbers[0][1] + 3, numbers[0][2] + 2]
        heaps = 1
        for _, _, many in numbers:
            heaps *= many + 2
        return [sum(one for one, _, _ in numbers) + 2 * len(numbers), sum(two for _, two, _ in numbers) + 2, heaps]
    places, steps, heaps = within(term)
    return places + 2, steps, heaps + 2


def text_by_hand(term):
    if term[0] == "step":
        return term[1]
    texts = [text_by_hand(part) for part in inner(term)]
    if term[0] == "row":
        return "(" + "; ".join(texts) + ")"
    if term[0] == "either":
        return "(" + " | ".join(texts) + ")"
    if term[0] == "beside":
        return term[1] + "(" + " & ".join(texts) + ")" + term[2]
    return term[1] + "(" + texts[0] + " ^ " + term[2] + ")" + term[3]


def stacks_behind(stacks, sign):
    """All that may still have to come behind a sign: a reader that tries all rules at once."""
    found, left = set(), list(stacks)
    while left:
        stack = left.pop()
        if not stack:
            continue
        head, rest = stack[0], stack[1:]
        if head == "T":
            name = ("N8",)
            left += [name + rest, ("(", "T", "; ", "T", "R; ", ")") + rest, ("(", "T", " | ", "T", "R | ", ")") + rest,
                     name + ("(", "T", " & ", "T", "R & ", ")", "N8") + rest, name + ("(", "T", " ^ ", "N8", ")", "N8") + rest]
        elif head[0] == "R":
            left += [rest, (head[1:], "T", head) + rest]
        elif head[0] == "N":
            if sign in LETTERS:
                found.add(("M" + str(int(head[1]) - 1),) + rest)
        elif head[0] == "M":
            left.append(rest)
            if head != "M0" and sign in LETTERS:
                found.add(("M" + str(int(head[1]) - 1),) + rest)
        elif head[0] == sign:
            found.add((head[1:],) + rest if len(head) > 1 else rest)
    return found


def is_done(stack):
    return all(head[0] in "MR" for head in stack)


def fault_by_hand(text):
    """The number of the first sign with which no text begins, the length if it ends too early, None if it is one."""
    stacks = {("T",)}
    for at, sign in enumerate(text):
        stacks = stacks_behind(stacks, sign)
        if not stacks:
            return at
    return None if any(is_done(stack) for stack in stacks) else len(text)


class Terms(Case):
    def wrong(self, value, place):
        self.refused(InvalidTerm, {"place": place}, need_term, value)
        self.refused(InvalidTerm, {"place": place}, need_term, value=value)

    def test_examples(self):
        self.wrong(("row", (A, ("beside", "b", "c", (A,)))), (1,))

    def test_right_terms(self):
        rng = generator(140)
        for term in (A, BRANCH, ("either", (A, B)), ("again", "x", "y", "z", A), ("row", (A, B, C))):
            self.assertIsNone(need_term(term))
        for _ in range(100):
            self.assertIsNone(need_term(random_term(rng, 4)))

    def test_one_wrong_thing(self):
        for value in ((), ("step",), ("step", "A"), ("step", ""), ("step", "abcdefghi"), ("step", "a", "b"), ("step", ("a",)), ("step", None),
                      ("steps", "a"), ["step", "a"], "a", None, ("row",), ("row", ()), ("row", (A,)), ("row", [A, B]), ("row", "ab"),
                      ("row", (A, B), C), ("either", (A,)), ("either", None), ("Row", (A, B)), ("beside", "f", (A, B)), ("beside", "f", "j"),
                      ("beside", "f", "j", (A,)), ("beside", "F", "j", (A, B)), ("beside", "f", 1, (A, B)), ("beside", "f", "j", A, B),
                      ("beside", "f", "j", [A, B]), ("beside", "f", "j", ()), ("again", "x", "y", A), ("again", "x", "y", "z"),
                      ("again", "x", "y", "z", A, B), ("again", "x", "", "z", A), ("again", None, "y", "z", A), ("again", "x", "y", True, A), ("rings", "x", "y", "z", A),
                      (("step", "a"),), (1, "a"), (None, "a"), (["step"], "a"), ((), (A, B))):
            self.wrong(value, ())
            self.wrong(("row", (A, value)), (1,))
            self.wrong(("either", (value, A)), (0,))
            self.wrong(("beside", "f", "j", (B, value, C)), (1,))
            self.wrong(("again", "x", "y", "z", value), (0,))
            self.wrong(("row", (B, ("again", "x", "y", "z", ("either", (C, A, value))))), (1, 0, 2))

    def test_the_outer_one_first_then_the_first(self):
        bad = ("row", (A,))
        self.wrong(("row", A), (0,))
        self.wrong(("row", (A, ("either", (B, bad)), bad)), (1, 1))
        self.wrong(("row", (bad, ("either", (B, bad)))), (0,))
        self.wrong(("beside", "f", "J", (bad, bad)), ())
        self.wrong(("row", (("again", "x", "y", "z", bad), bad)), (0, 0))
        self.wrong(("row", (("again", "x", "y", "Z", bad), bad)), (0,))
        self.wrong(("row", (("row", (A, ("row", (B, None)))), None)), (0, 1, 1))

    def test_names_alike_count_last(self):
        self.wrong(("row", (A, A)), (1,))
        self.wrong(("row", (A, B, A, B)), (2,))
        self.wrong(("row", (A, A, None)), (2,))
        self.wrong(("row", (A, A, ("row", (B,)))), (2,))
        self.wrong(("beside", "f", "f", (A, B)), ())
        self.wrong(("beside", "f", "a", (A, B)), (0,))
        self.wrong(("beside", "f", "j", (A, ("row", (B, step("j"))))), (1, 1))
        self.wrong(("again", "x", "y", "x", A), ())
        self.wrong(("again", "x", "x", "x", ("row", (A, A))), ())
        self.wrong(("again", "x", "y", "z", step("y")), (0,))
        self.wrong(("row", (("again", "x", "y", "z", A), ("beside", "f", "z", (A, B)))), (1,))
        self.wrong(("row", (("beside", "f", "j", (A, B)), ("beside", "g", "h", (C, step("f"))))), (1, 1))
        self.wrong(("either", (("row", (A, B)), ("row", (C, B)), A)), (1, 1))

    def test_two_wrong_things_by_chance(self):
        rng = generator(141)
        for _ in range(200):
            term = random_term(rng, 3)
            places = self.places_of(term)
            chosen = sorted(rng.sample(places, min(2, len(places))))
            for place in reversed(chosen):
                term = self.with_thing(term, place, rng.choice((None, ("row", ()), ("step", "A"), [], ("again",))))
            # What stands within a wrong thing is gone: the first place is told.
            self.wrong(term, chosen[0])

    def places_of(self, term, place=()):
        found = [place]
        for k, part in enumerate(inner(term)):
            found += self.places_of(part, place + (k,))
        return found

    def with_thing(self, term, place, thing):
        if not place:
            return thing
        parts = list(inner(term))
        parts[place[0]] = self.with_thing(parts[place[0]], place[1:], thing)
        return term[:-1] + ((parts[0],) if term[0] == "again" else (tuple(parts),))

    def test_names_alike_by_chance(self):
        rng = generator(142)
        many = 0
        for _ in range(200):
            term = random_term(rng, 3)
            names = dict.fromkeys(self.names_of_all(term))
            if len(names) < 2:
                continue
            one, other = rng.sample(list(names), 2)
            changed = self.with_name(term, other, one)
            seen, expected = set(), None
            for place, name in self.placed_names(changed):
                if name in seen and expected is None:
                    expected = place
                seen.add(name)
            self.wrong(changed, expected)
            many += 1
        self.assertGreater(many, 80)

    def placed_names(self, term, place=()):
        own = term[1:] if term[0] == "step" else term[1:-1]
        found = [(place, name) for name in own]
        for k, part in enumerate(inner(term)):
            found += self.placed_names(part, place + (k,))
        return found

    def names_of_all(self, term):
        return [name for _, name in self.placed_names(term)]

    def with_name(self, term, old, new):
        if term[0] == "step":
            return ("step", new if term[1] == old else term[1])
        own = tuple(new if name == old else name for name in term[1:-1])
        parts = tuple(self.with_name(part, old, new) for part in inner(term))
        return term[:1] + own + ((parts[0],) if term[0] == "again" else (parts,))

    def test_any_values(self):
        for value in ODD + (nested(80),):
            if value != ("step", "a"):
                self.wrong(value, ())
        deep, rings = A, A
        for k in range(38):
            deep = ("row", (deep, step("x" + LETTERS[k % 26] + LETTERS[k // 26])))
        self.assertIsNone(need_term(deep))
        for k in range(78):
            rings = ("again", "x" + LETTERS[k % 26] + LETTERS[k // 26], "y" + LETTERS[k % 26] + LETTERS[k // 26],
                     "z" + LETTERS[k % 26] + LETTERS[k // 26], rings)
        self.assertIsNone(need_term(rings))
        self.wrong(self.with_thing(rings, (0,) * 78, step("xaa")), (0,) * 78)


class Plans(Case):
    def test_example(self):
        term = read_term("(a; f(b & c)j)")
        self.exact((plan_text(plan_of(term)), runs_of(term, 9), shape_numbers(term)),
                   ("start a\nend b\nstep a: a -> c\nstep b: d -> e\nstep c: f -> g\nstep f: c -> d, f\nstep j: e, g -> b",
                    (("a", "f", "b", "c", "j"), ("a", "f", "c", "b", "j")), (7, 5, 7)))

    def test_names_of_places(self):
        for text, expected in (
                ("t", "step t: a -> b"), ("(t; u)", "step t: a -> c\nstep u: c -> b"), ("(t | u)", "step t: a -> b\nstep u: a -> b"),
                ("f(t & u)j", "step f: a -> c, e\nstep j: d, f -> b\nstep t: c -> d\nstep u: e -> f"),
                ("x(t ^ y)z", "step t: c -> d\nstep x: a -> c\nstep y: d -> c\nstep z: d -> b"),
                ("((t; u); (v; w))", "step t: a -> d\nstep u: d -> c\nstep v: c -> e\nstep w: e -> b"),
                ("((t; u) | (v; w; z))", "step t: a -> c\nstep u: c -> b\nstep v: a -> d\nstep w: d -> e\nstep z: e -> b"),
                ("f((t; u) & v & x(w ^ y)z)j", "step f: a -> c, e, g\nstep j: d, f, h -> b\nstep t: c -> i\nstep u: i -> d\n"
                 "step v: e -> f\nstep w: j -> k\nstep x: g -> j\nstep y: k -> j\nstep z: k -> h"),
                ("x(f(t & u)j ^ y)z", "step f: c -> e, g\nstep j: f, h -> d\nstep t: e -> f\nstep u: g -> h\nstep x: a -> c\n"
                 "step y: d -> c\nstep z: d -> b"),
                ("(t; f(u & (v | w))j; (p; q))", "step f: c -> e, g\nstep j: f, h -> d\nstep p: d -> i\nstep q: i -> b\nstep t: a -> c\n"
                 "step u: e -> f\nstep v: g -> h\nstep w: g -> h")):
            plan = self.unchanged(plan_of, read_term(text))
            self.exact(plan_text(plan), "start a\nend b\n" + expected)
            self.assertTrue(plan == read_plan("start a\nend b\n" + expected))

    def test_names_behind_z(self):
        term = ("row", tuple(step("x" + letter) for letter in LETTERS) + tuple(step("y" + letter) for letter in LETTERS[:4]))
        plan = plan_of(term)
        self.exact(len(plan.places), 31)
        by_name = {name: (take, lay) for name, take, lay in plan.steps}
        self.exact(by_name["xx"], ((("y", 1),), (("z", 1),)))
        self.exact(by_name["xy"], ((("z", 1),), (("ba", 1),)))
        self.exact(by_name["xz"], ((("ba", 1),), (("bb", 1),)))
        self.exact(by_name["yd"], ((("be", 1),), (("b", 1),)))
        great = ("row", tuple(step("x" + one + two) for one in LETTERS for two in LETTERS))
        plan = plan_of(great)
        self.exact((plan.places[:3], len(plan.places)), (("a", "b", "ba"), 677))
        self.assertIn("zz", plan.places)
        self.assertIn("baa", plan.places)
        self.assertNotIn("bab", plan.places)

    def test_as_plans_put_together(self):
        self.assertTrue(plan_of(("row", (A, B))) == behind(read_plan("start a\nend c\nstep a: a -> c"),
                                                          read_plan("start x\nend b\nstep b: x -> b")))
        self.assertTrue(plan_of(("either", (A, B))) == either(read_plan("start a\nend b\nstep a: a -> b"),
                                                             read_plan("start x\nend y\nstep b: x -> y")))
        self.assertTrue(plan_of(("beside", "f", "j", (A, B))) == beside(
            read_plan("start c\nend d\nstep a: c -> d"), read_plan("start e\nend f\nstep b: e -> f"), "f", "j", "a", "b"))
        self.assertTrue(plan_of(("again", "x", "y", "z", A)) == again(read_plan("start c\nend d\nstep a: c -> d"), "x", "y", "z", "a", "b"))

    def test_whole_with_the_heaps_told(self):
        rng = generator(143)
        for _ in range(80):
            term = small_term(rng)
            plan = self.unchanged(plan_of, term)
            heaps = self.unchanged(term_heaps, term)
            self.tuples_within(heaps)
            self.exact(heaps, least_heaps(plan))
            self.exact(self.unchanged(shape_numbers, term), (len(plan.places), len(plan.steps), len(heaps)))
            self.exact(shape_numbers(term), shape_by_hand(term))
            self.assertTrue(isinstance(verdict(plan, 4000), Whole))

    def test_shape_of_great_terms(self):
        rng = generator(144)
        for _ in range(100):
            term = random_term(rng, 4)
            plan = plan_of(term)
            self.exact(shape_numbers(term)[:2], (len(plan.places), len(plan.steps)))
            self.exact(shape_numbers(term), tuple(shape_by_hand(term)))

    def test_greatest(self):
        # Twelve steps, nested six deep.
        term = A
        for k in range(5):
            term = ("either", (("row", (term, step("p" + LETTERS[k]))), step("q" + LETTERS[k])))
        term = ("row", (term, step("last")))
        for _ in range(10):
            plan = plan_of(term)
            self.exact((len(plan.steps), shape_numbers(term)), (12, (8, 12, 8)))
            self.exact(term_heaps(term), least_heaps(plan))
            self.exact(len(runs_of(term, 20)), 6)
        wide = ("beside", "f", "j", tuple(step(letter) for letter in "abcde"))
        for _ in range(5):
            self.exact((shape_numbers(wide), len(term_heaps(wide)), len(runs_of(wide, 7))), ((12, 7, 34), 34, 120))
        rings = A
        for k in range(3):
            rings = ("again", "x" + LETTERS[k], "y" + LETTERS[k], "z" + LETTERS[k], rings)
        for _ in range(5):
            self.exact(shape_numbers(rings), (8, 10, 8))
            self.exact(term_heaps(rings), least_heaps(plan_of(rings)))


def runs_by_hand(plan, most):
    """All plain runs of one case to its end, by going on with every one; what cannot come home in time is left."""
    ends = ((plan.end, 1),)
    home = {papers: len(walk_by_hand(plan, names_of(plan), papers)[ends]) for papers in walk_by_hand(plan, names_of(plan), ((plan.start, 1),))}
    found, left = [], [((), ((plan.start, 1),))]
    while left:
        run, papers = left.pop()
        if papers == ends:
            found.append(run)
            continue
        for name in names_of(plan):
            behind_it = end_by_hand(plan, papers, (name,))
            if behind_it is not None and len(run) + 1 + home[behind_it] <= most:
                left.append((run + (name,), behind_it))
    return tuple(sorted(run for run in found if len(run) <= most))


class Runs(Case):
    def test_by_hand(self):
        rng = generator(145)
        many = 0
        for _ in range(80):
            term = small_term(rng, 8, 20)
            plan = plan_of(term)
            shortest = len(walk_by_hand(plan, live_of(plan), ((plan.start, 1),))[((plan.end, 1),)])
            for most in (1, shortest - 1, shortest, shortest + 2):
                expected = runs_by_hand(plan, most)
                if most >= 0 and len(expected) <= 500:
                    found = self.unchanged(runs_of, term, most)
                    self.tuples_within(found)
                    self.exact(found, expected)
                    many += len(found) > 1
        self.assertGreater(many, 40)

    def test_shapes(self):
        self.exact(runs_of(A, 0), ())
        self.exact([runs_of(A, most) for most in (1, 2, 20)], [(("a",),)] * 3)
        self.exact(runs_of(("either", (B, A)), 5), (("a",), ("b",)))
        self.exact(runs_of(("row", (B, A)), 1), ())
        self.exact(runs_of(("row", (B, A)), 2), (("b", "a"),))
        ring = ("again", "x", "y", "z", A)
        self.exact([len(runs_of(ring, most)) for most in range(8)], [0, 0, 0, 1, 1, 2, 2, 3])
        self.exact(runs_of(ring, 5), (("x", "a", "y", "a", "z"), ("x", "a", "z")))
        self.exact(len(runs_of(ring, 20)), 9)

    def test_greatest(self):
        turns = ("again", "x", "y", "z", ("either", (A, B)))
        for _ in range(5):
            self.exact(len(runs_of(turns, 17)), 2 + 4 + 8 + 16 + 32 + 64 + 128 + 256)


class Texts(Case):
    def wrong(self, text, at):
        self.refused(InvalidText, {"at": at}, read_term, text)
        self.refused(InvalidText, {"at": at}, read_term, text=text)

    def test_examples(self):
        self.wrong("(a; b", 5)

    def test_texts(self):
        for text, term in (("a", A), ("(a; b; c)", ("row", (A, B, C))), ("(a | b | c)", ("either", (A, B, C))),
                           ("f(a & b & c)j", ("beside", "f", "j", (A, B, C))), ("x(a ^ y)z", ("again", "x", "y", "z", A)),
                           ("(a; f(b & c)j)", BRANCH), ("abcdefgh", step("abcdefgh")),
                           ("x((a | b) ^ y)z", ("again", "x", "y", "z", ("either", (A, B)))),
                           ("f((a; b) & x(c ^ y)z)j", ("beside", "f", "j", (("row", (A, B)), ("again", "x", "y", "z", C)))),
                           ("((a; b); c)", ("row", (("row", (A, B)), C)))):
            self.exact(self.unchanged(term_text, term), text)
            self.exact(read_term(text), term)
            self.exact(fault_by_hand(text), None)

    def test_there_and_back(self):
        rng = generator(146)
        for _ in range(200):
            term = random_term(rng, rng.randint(0, 4))
            text = self.unchanged(term_text, term)
            self.exact(text, text_by_hand(term))
            self.exact(read_term(text), term)
            self.exact(fault_by_hand(text), None)

    def test_no_string(self):
        for value in ODD + (nested(80), A, ["a"]):
            if not isinstance(value, str):
                self.wrong(value, -1)

    def test_ends_too_early(self):
        rng = generator(147)
        for text in ["", "(", "(a", "(a;", "(a; ", "(a |", "(a | b", "f(a", "f(a ", "f(a &", "f(a & b", "f(a & b)", "x(a ^ ", "x(a ^ y", "x(a ^ y)"]:
            self.wrong(text, len(text))
        for _ in range(60):
            text = term_text(random_term(rng, 3))
            for at in range(len(text)):
                expected = fault_by_hand(text[:at])
                if expected is not None:
                    self.exact(expected, at)
                    self.wrong(text[:at], at)

    def test_goes_on_too_long(self):
        rng = generator(148)
        for text, at in (("a ", 1), ("a(", 2), ("a)", 1), ("a;", 1), ("(a; b) ", 6), ("(a; b)c", 6), ("f(a & b)j(", 9), ("f(a & b)j ", 9),
                         ("f(a & b)abcdefghi", 16), ("x(a ^ y)z)", 9), ("abcdefghi", 8), ("a\n", 1), ("(a; b)(c; d)", 6)):
            self.wrong(text, at)
            self.exact(fault_by_hand(text), at)
        for _ in range(60):
            text = term_text(random_term(rng, 3))
            for more in ("a", "(", ")", " ", ";", "|"):
                expected = fault_by_hand(text + more)
                if expected is not None:
                    self.wrong(text + more, expected)

    def test_one_wrong_sign(self):
        for text, at in (("A", 0), (" a", 0), ("1", 0), (")", 0), (";", 0), ("()", 1), ("(a)", 2), ("(a,b)", 2), ("(a;b)", 3), ("(a ; b)", 3),
                         ("(a;  b)", 4), ("(a|b)", 2), ("(a & b)", 3), ("(a ^ b)c", 3), ("f(a; b)j", 3), ("f(a | b)j", 4), ("f(a)j", 3),
                         ("f(a  & b)j", 4), ("f(a & b) j", 8), ("f(a & b)1", 8), ("f(a & b ^ c)d", 8), ("(a; b | c)", 5), ("(a | b; c)", 6),
                         ("x(a ^ (b; c))z", 6), ("x(a ^ y ^ z)w", 7), ("x(a ^ y & z)w", 7), ("x(a ^ 1)z", 6), ("(a; b;)", 6), ("(a; b; )", 7),
                         ("x(a ^ y)(z", 8), ("f(a & b)(j", 8), ("(abcdefghi; b)", 9), ("abcdefghi(a & b)c", 8), ("x(a ^ abcdefghi)z", 14),
                         ("(\u00e4; b)", 1), ("((a; b)c; d)", 7), ("f((a & b)j", 5)):
            self.wrong(text, at)
            self.exact(fault_by_hand(text), at)

    def test_by_chance(self):
        rng = generator(149)
        counts = [0, 0]
        for _ in range(3000):
            text = term_text(random_term(rng, 3)) if rng.random() < 0.8 else "".join(rng.choice("ab(); |&^") for _ in range(6))
            for _ in range(rng.randint(1, 2)):
                at = rng.randrange(len(text) + 1)
                text = text[:at] + rng.choice(["", "a", " ", "(", ")", ";", "|", "&", "^", "b", "A"]) + text[at + rng.randint(0, 1):]
            expected = fault_by_hand(text)
            if expected is not None:
                self.wrong(text, expected)
            else:
                try:
                    self.exact(term_text(read_term(text)), text)
                except InvalidTerm:
                    pass
            counts[expected is None] += 1
        self.assertGreater(min(counts), 200)

    def test_names_alike(self):
        for text, place in (("(a; a)", (1,)), ("f(a & b)f", ()), ("x(x ^ y)z", (0,)), ("x(a ^ x)x", ()), ("(a; f(b & a)j)", (1, 1)),
                            ("((a | b); (c | b))", (1, 1))):
            self.refused(InvalidTerm, {"place": place}, read_term, text)
        # The text is looked at first.
        self.wrong("(a; a", 5)
        self.wrong("(a; a) ", 6)

    def test_greatest(self):
        text = "(" * 80 + "a"
        self.wrong(text, 81)
        opened = text + "; "
        self.wrong(opened, 83)
        rings = "x(" * 40 + "a" + " ^ y)z" * 40
        for _ in range(5):
            self.refused(InvalidTerm, {"place": (0,)}, read_term, rings)
            self.wrong("(" * 80, 80)
            self.wrong("a(" * 80, 160)
        rows = "(" * 55 + "a" + "; b)" * 55
        self.refused(InvalidTerm, {"place": (0,) * 53 + (1,)}, read_term, rows)
        unlike = "(" * 50 + "a" + "".join(f"; {one}{two})" for one in LETTERS for two in LETTERS)[:250]
        self.exact(term_text(read_term(unlike)), unlike)


if __name__ == "__main__":
    unittest.main()
