"""[53] to [56]: editions."""

import unittest

from caseshome.court import Stuck, Sure, Unsure, Whole, Wide, sure, whole_or_not
from caseshome.editions import (Edition, NoEdition, can_carry, carried, carry_behind, check_edition, check_once, edition,
                                is_living, need_carry, once, same_carry)
from caseshome.errors import InvalidCarry, NoName, Refused
from caseshome.lists import least_heaps
from caseshome.plans import Plan, names_of
from tests.byhand import is_fraction_by_hand, worth_by_hand
from tests.helpers import ODD, Case, change_by_hand, generator, heap, nested, plan_of, random_heap, triple_of
from tests.search import (GREAT, GROWING, STUCK, WHOLE, belongs_by_hand, ends, joined_by_hand, live_of, walk_by_hand, whole_plan)

OLD = Plan(("a", "b", "c"), (("go", (("a", 1),), (("b", 1),)), ("up", (("b", 1),), (("c", 1),))), "a", "c")
NEW = Plan(("x", "y"), (("do", (("x", 1),), (("y", 1),)),), "x", "y")
PLAIN = (("a", (("x", 1),)), ("b", (("x", 1),)), ("c", (("y", 1),)))
# Two papers for one: not of this new plan.
TWO = (("a", (("x", 1),)), ("b", (("x", 2),)), ("c", (("y", 1),)))
FORK = plan_of("fork: s -> 2 a\njoin: 2 a -> e")
PAIRS = plan_of("in: s -> p, q\nout: p, q -> e\nturn: 2 p -> 2 r\nback: 2 r -> 2 p\nlast: q, r -> e")


def carried_by_hand(carry, heap_there):
    heaps = dict(carry)
    return joined_by_hand([heaps[place] for place, number in heap_there for _ in range(number)])


def change_carried(carry, step):
    """The carried change of a triple, as an ascending tuple."""
    shifts = {}
    for place, number in change_by_hand(step).items():
        for target, many in dict(carry)[place]:
            shifts[target] = shifts.get(target, 0) + number * many
    return {place: number for place, number in shifts.items() if number}


def dues_by_hand(old, new, carry):
    """What has to be made: (word, cases, change), the change behind a paper at the new start taken off for the start."""
    start = dict(dict(carry)[old.start])
    start[new.start] = start.get(new.start, 0) - 1
    found = [("", {place: number for place, number in start.items() if number})]
    return found + [(name, change_carried(carry, triple_of(old, name))) for name in live_of(old)]


def makes(new, made, change):
    """Whether a tuple is a change of live steps that makes another change in all."""
    names = [name for name, _ in made]
    if names != sorted(set(names)) or any(name not in live_of(new) or type(many) is not int or not many for name, many in made):
        return False
    shifts = {}
    for name, many in made:
        for place, number in change_by_hand(triple_of(new, name)).items():
            shifts[place] = shifts.get(place, 0) + many * number
    return {place: number for place, number in shifts.items() if number} == change


def bars(new, fractions, cases, change):
    """Whether fractions by places and by a case give live steps and the start a whole worth, and this none."""
    by_places, by_case = fractions
    if [place for place, _ in by_places] != list(new.places):
        return False
    row = [one for _, one in by_places] + [by_case]
    if not all(is_fraction_by_hand(one) for one in row):
        return False
    def worth(shift, many):
        return worth_by_hand(row, [shift.get(place, 0) for place in new.places] + [many])
    whole = all(worth(change_by_hand(triple_of(new, name)), 0).denominator == 1 for name in live_of(new))
    return whole and worth({new.start: 1}, 1).denominator == 1 and worth(change, cases).denominator != 1


def some_carry(rng, old, new, most=2):
    """A carry into a whole plan: often what so many cases can be, now and then something else."""
    heaps = [papers for cases, papers in least_heaps(new) if cases == 1]
    carry = []
    for place in old.places:
        if place == old.end:
            papers = ends(new, 1)
        elif rng.random() < 0.6:
            papers = rng.choice(heaps)
        else:
            papers = random_heap(rng, new.places, most, 2) if rng.random() < 0.8 else ()
        carry.append((place, papers))
    return tuple(carry)


class Carries(Case):
    def wrong(self, value, at):
        self.refused(InvalidCarry, {"at": at}, need_carry, OLD, NEW, value)
        self.refused(InvalidCarry, {"at": at}, need_carry, old=OLD, new=NEW, value=value)

    def test_examples(self):
        self.wrong((("a", (("x", 1),)), ("c", (("y", 1),))), 1)
        carry = (("a", (("x", 1),)), ("b", (("x", 2), ("y", 1))), ("c", (("y", 1),)))
        self.exact((carried(carry, (("a", 4), ("b", 3))), is_living(NEW, carry)), ((("x", 10), ("y", 3)), True))

    def test_right_ones(self):
        for value in (PLAIN, TWO, (("a", ()), ("b", ()), ("c", (("y", 1),))), (("a", (("x", 10 ** 30),)), ("b", (("y", 7),)), ("c", (("y", 1),)))):
            self.assertIsNone(need_carry(OLD, NEW, value))
        for plan in (OLD, NEW, FORK, PAIRS):
            self.assertIsNone(need_carry(plan, plan, same_carry(plan)))

    def test_the_first_wrong_thing(self):
        for value in ODD + (nested(80), list(PLAIN)):
            if not isinstance(value, tuple):
                self.wrong(value, -1)
            else:
                self.wrong(value, 0)
        for at in range(3):
            for thing in (None, 1, "a", ("a",), list(PLAIN[at]), PLAIN[at] + (1,), (PLAIN[at][0], None), (PLAIN[at][0], [("x", 1)]),
                          (PLAIN[at][0], (("x", 0),)), (PLAIN[at][0], (("x", True),)), (PLAIN[at][0], (("z", 1),)), ("d", PLAIN[at][1]),
                          (PLAIN[at][0], (("y", 1), ("x", 1))), (PLAIN[at][0], (("a", 1),)), (None, PLAIN[at][1]), (PLAIN[at][0], "x"),
                          (PLAIN[at][0], ("x", 1)), ([PLAIN[at][0]], PLAIN[at][1]), PLAIN[(at + 1) % 3]):
                self.wrong(PLAIN[:at] + (thing,) + PLAIN[at + 1:], at)
                self.wrong(PLAIN[:at] + (thing,), at)
                self.wrong(PLAIN[:at] + (thing, None), at)

    def test_the_end(self):
        for papers in ((("x", 1),), (("y", 2),), (("x", 1), ("y", 1)), ()):
            self.wrong(PLAIN[:2] + (("c", papers),), 2)
        # The end may stand anywhere among the places.
        first = Plan(("a", "b"), (), "b", "a")
        self.assertIsNone(need_carry(first, NEW, (("a", (("y", 1),)), ("b", ()))))
        self.refused(InvalidCarry, {"at": 0}, need_carry, first, NEW, (("a", (("x", 1),)), ("b", ())))

    def test_too_few_and_too_many(self):
        self.wrong((), 0)
        self.wrong(PLAIN[:1], 1)
        self.wrong(PLAIN[:2], 2)
        self.wrong(PLAIN + (("d", ()),), 3)
        self.wrong(PLAIN + PLAIN, 3)
        self.wrong(PLAIN[1:], 0)
        self.wrong((PLAIN[0], PLAIN[0]) + PLAIN[1:], 1)

    def test_carried(self):
        self.exact(carried(PLAIN, ()), ())
        self.exact(carried(TWO, heap(a=10 ** 12, b=10 ** 12, c=5)), heap(x=3 * 10 ** 12, y=5))
        self.exact(carried((("a", ()), ("b", heap(x=3)), ("c", heap(y=1))), heap(a=7, b=2)), heap(x=6))
        rng = generator(150)
        for _ in range(60):
            old, new = whole_plan(rng), whole_plan(rng)
            carry, papers = some_carry(rng, old, new), random_heap(rng, old.places, 3, 3)
            self.exact(self.unchanged(carried, carry, papers), carried_by_hand(carry, papers))

    def test_behind_and_same(self):
        rng = generator(151)
        for _ in range(60):
            one, two, three = whole_plan(rng), whole_plan(rng), whole_plan(rng)
            first, second = some_carry(rng, one, two), some_carry(rng, two, three)
            both = self.unchanged(carry_behind, first, second)
            self.tuples_within(both)
            self.assertIsNone(need_carry(one, three, both))
            papers = random_heap(rng, one.places, 3, 3)
            self.exact(carried(both, papers), carried(second, carried(first, papers)))
            self.exact(carry_behind(first, same_carry(two)), first)
            self.exact(carry_behind(same_carry(one), first), first)
            self.exact(carried(same_carry(one), papers), papers)
        self.exact(same_carry(OLD), (("a", (("a", 1),)), ("b", (("b", 1),)), ("c", (("c", 1),))))

    def test_living(self):
        dead = plan_of("t: x -> y\nz: w -> y", "x", "y", ("v",))
        for papers, told in (((), True), (heap(x=5), True), (heap(y=1), True), (heap(w=1), False), (heap(v=1, x=1), False), (heap(x=1, y=1), True)):
            self.exact(is_living(dead, (("a", papers), ("b", ()), ("c", heap(y=1)))), told)
            self.exact(is_living(dead, (("a", ()), ("b", papers), ("c", heap(y=1)))), told)
        # The end may be dead, too: nothing is ever carried to a plan without live steps.
        self.exact(is_living(plan_of("", "x", "y"), PLAIN), False)


class Editions(Case):
    def test_examples(self):
        self.exact(edition(OLD, NEW, PLAIN, 100).sums, (("", ()), ("go", ()), ("up", (("do", 1),))))
        self.exact((edition(OLD, NEW, TWO, 100).word, can_carry(OLD, NEW, TWO, 1, (("a", 1),), 100),
                    can_carry(OLD, NEW, TWO, 1, (("b", 1),), 100)), ("go", True, False))

    def looked_at(self, old, new, carry, told):
        """What is told of it, looked at here."""
        due = dues_by_hand(old, new, carry)
        if isinstance(told, Edition):
            self.tuples_within(told.sums)
            self.exact([word for word, _ in told.sums], [word for word, _ in due])
            for (_, made), (_, change) in zip(told.sums, due):
                self.assertTrue(makes(new, made, change))
            return
        self.assertIsInstance(told, NoEdition)
        self.tuples_within(told.fractions)
        words = [word for word, _ in due]
        first = [belongs_by_hand(new, 0, tuple(sorted(change.items()))) for _, change in due].index(False)
        self.exact(told.word, words[first])
        if told.word == "":
            self.assertTrue(bars(new, told.fractions, 1, dict(dict(carry)[old.start])))
        else:
            self.assertTrue(bars(new, told.fractions, 0, due[first][1]))

    def test_by_chance(self):
        rng = generator(152)
        counts = {}
        for _ in range(250):
            old = whole_plan(rng) if rng.random() < 0.7 else plan_of(rng.choice(STUCK + GROWING))
            new = whole_plan(rng)
            carry = some_carry(rng, old, new)
            if not is_living(new, carry):
                self.refused(Refused, {"word": "living"}, edition, old, new, carry, 4000)
                continue
            told = self.unchanged(edition, old, new, carry, 4000)
            self.looked_at(old, new, carry, told)
            self.exact(check_edition(old, new, carry, told), True)
            kind = "all" if isinstance(told, Edition) else "start" if told.word == "" else "step"
            counts[kind] = counts.get(kind, 0) + 1
        self.assertGreater(min(counts[kind] for kind in ("all", "start", "step")), 20)

    def test_the_first_for_which_there_is_none(self):
        self.exact(edition(OLD, NEW, (("a", heap(x=2)), ("b", heap(x=2)), ("c", heap(y=1))), 99).word, "")
        self.exact(edition(OLD, NEW, (("a", ()), ("b", ()), ("c", heap(y=1))), 99).word, "")
        self.exact(edition(OLD, NEW, (("a", heap(x=1)), ("b", heap(x=2)), ("c", heap(y=1))), 99).word, "go")
        four = plan_of("f: s -> a\ng: a -> b\nh: b -> c\nk: c -> e")
        self.exact(edition(four, NEW, (("a", heap(x=1)), ("b", heap(y=1)), ("c", heap(x=3)), ("e", heap(y=1)), ("s", heap(x=1))), 99).word, "h")

    def test_dead_steps_of_the_old_plan_count_for_nothing(self):
        old = plan_of("t: s -> e\nz: y -> e")
        told = edition(old, NEW, (("e", heap(y=1)), ("s", heap(x=1)), ("y", heap(x=7))), 99)
        self.exact(told.sums, (("", ()), ("t", (("do", 1),))))

    def test_same_and_no_steps(self):
        for text in WHOLE:
            plan = plan_of(text)
            told = edition(plan, plan, same_carry(plan), 4000)
            self.looked_at(plan, plan, same_carry(plan), told)
            self.exact(isinstance(told, Edition), True)
        bare = plan_of("")
        self.exact(edition(bare, NEW, (("e", heap(y=1)), ("s", heap(y=1))), 9).sums, (("", (("do", 1),)),))

    def test_refusals_in_order(self):
        dead = (("a", heap(x=1)), ("b", heap(w=1)), ("c", heap(y=1)))
        new = plan_of("t: x -> y\nz: w -> y", "x", "y")
        self.refused(Refused, {"word": "whole"}, edition, OLD, new, dead, 1)
        self.refused(Refused, {"word": "living"}, edition, OLD, new, dead, 2)
        self.refused(Refused, {"word": "whole"}, can_carry, OLD, new, dead, 1, heap(a=2), 1)
        self.refused(Refused, {"word": "living"}, can_carry, OLD, new, dead, 1, heap(a=2), 2)
        self.refused(Refused, {"word": "belongs"}, can_carry, OLD, new, PLAIN, 1, heap(a=2), 2)
        for text in STUCK + GROWING:
            plan = plan_of(text)
            carry = (("a", heap(s=1)), ("b", heap(s=1)), ("c", heap(e=1)))
            self.refused(Refused, {"word": "whole"}, edition, OLD, plan, carry, 4000)
            self.refused(Refused, {"word": "whole"}, can_carry, OLD, plan, carry, 1, (), 4000)

    def test_editions_behind_editions(self):
        rng = generator(153)
        many = 0
        for _ in range(300):
            one, two, three = whole_plan(rng, 1), whole_plan(rng, 1), whole_plan(rng, 1)
            first, second = some_carry(rng, one, two), some_carry(rng, two, three)
            if not is_living(two, first) or not is_living(three, second):
                continue
            if isinstance(edition(one, two, first, 4000), Edition) and isinstance(edition(two, three, second, 4000), Edition):
                told = edition(one, three, carry_behind(first, second), 4000)
                self.exact(isinstance(told, Edition), True)
                self.looked_at(one, three, carry_behind(first, second), told)
                many += 1
        self.assertGreater(many, 10)

    def test_what_comes_about_can_be_ended_exactly_then(self):
        rng = generator(154)
        counts = [0, 0]
        for _ in range(80):
            old, new = whole_plan(rng, 1), whole_plan(rng, 1)
            carry = some_carry(rng, old, new)
            if not is_living(new, carry):
                continue
            told = edition(old, new, carry, 4000)
            all_can = all(belongs_by_hand(new, cases, carried(carry, papers)) for cases, papers in least_heaps(old))
            self.exact(isinstance(told, Edition), all_can)
            counts[all_can] += 1
        self.assertGreater(min(counts), 10)

    def test_can_carry(self):
        rng = generator(155)
        counts = {}
        for _ in range(150):
            old, new = whole_plan(rng, 1), whole_plan(rng, 1)
            carry = some_carry(rng, old, new)
            if not is_living(new, carry):
                continue
            chosen = [rng.choice(least_heaps(old)) for _ in range(rng.randint(0, 2))]
            cases, papers = sum(one for one, _ in chosen), joined_by_hand([one for _, one in chosen])
            told = self.unchanged(can_carry, old, new, carry, cases, papers, 4000)
            self.exact(told, belongs_by_hand(new, cases, carried_by_hand(carry, papers)))
            counts[told] = counts.get(told, 0) + 1
            moved = carried_by_hand(carry, papers)
            found = walk_by_hand(new, names_of(new), moved, 200)
            if told and found is not None:
                self.assertIn(ends(new, cases), found)
            self.refused(Refused, {"word": "belongs"}, can_carry, old, new, carry, cases + 1, papers, 4000)
        self.assertGreater(min(counts.values()), 15)
        many = 10 ** 12
        self.exact(can_carry(OLD, NEW, PLAIN, 2 * many, heap(a=many, b=many), 9), True)
        self.exact(can_carry(OLD, NEW, TWO, 2 * many, heap(a=many, b=many), 9), False)
        self.exact(can_carry(OLD, NEW, TWO, 0, (), 9), True)


class CheckedEditions(Case):
    def test_sums(self):
        right = (("", ()), ("go", ()), ("up", (("do", 1),)))
        self.exact(check_edition(OLD, NEW, PLAIN, Edition(right)), True)
        for at in range(3):
            self.exact(check_edition(OLD, NEW, PLAIN, Edition(right[:at] + right[at + 1:])), False)
            self.exact(check_edition(OLD, NEW, PLAIN, Edition(right[:at + 1] + right[at:])), False)
            word, made = right[at]
            for wrong in ((word, list(made)), [word, made], (word, made + (("do", 1),)), (word, (("do", 2),)), (word + "x", made), (word,), None,
                          (word, made, 1), (word, (("do", True),)), (word, (("nn", 1),)), (word, None), (None, made), (word, (("do", 0),))):
                self.exact(check_edition(OLD, NEW, PLAIN, Edition(right[:at] + (wrong,) + right[at + 1:])), False)
        for value in (right[::-1], list(right), (), None, (right,), right + (("zz", ()),)):
            self.exact(check_edition(OLD, NEW, PLAIN, Edition(value)), False)
        self.exact(check_edition(OLD, NEW, TWO, Edition(right)), False)
        # Another sum that makes the same, with steps done less than never.
        rows = plan_of("do: x -> y\nin: x -> m\nout: m -> y", "x", "y")
        self.exact(check_edition(OLD, rows, PLAIN, Edition((("", ()), ("go", (("do", -5), ("in", 5), ("out", 5))), ("up", (("in", 1), ("out", 1)))))), True)
        self.exact(check_edition(OLD, rows, PLAIN, Edition((("", ()), ("go", (("do", -5), ("in", 5), ("out", 4))), ("up", (("in", 1), ("out", 1)))))), False)

    def test_fractions(self):
        told = edition(OLD, NEW, TWO, 9)
        half, none = (1, 2), (0, 1)
        self.exact(check_edition(OLD, NEW, TWO, told), True)
        right = ((("x", half), ("y", half)), half)
        self.exact(check_edition(OLD, NEW, TWO, NoEdition("go", right)), True)
        # "up" is carried to a change that does not belong, too: two papers less at x, one more at y.
        self.exact(check_edition(OLD, NEW, TWO, NoEdition("up", right)), True)
        for word in ("", "nn", None, "do", ["go"], 1, ("go",), True):
            self.exact(check_edition(OLD, NEW, TWO, NoEdition(word, right)), False)
        for wrong in (((("x", half), ("y", half)), none), ((("x", none), ("y", none)), none), ((("x", half), ("y", none)), half),
                      ((("x", half),), half), ((("y", half), ("x", half)), half), (list(right[0]), half), (right[0],), list(right),
                      ((("x", (2, 4)), ("y", half)), half), ((("x", [1, 2]), ("y", half)), half), (right[0], 1), (right[0], half, half), None,
                      ((("x", half), ("y", half)), (True, 2)), ((("x", (1, -2)), ("y", half)), half), (half, half)):
            self.exact(check_edition(OLD, NEW, TWO, NoEdition("go", wrong)), False)
        self.exact(check_edition(OLD, NEW, PLAIN, NoEdition("go", right)), False)
        start = (("a", heap(x=2)), ("b", heap(x=2)), ("c", heap(y=1)))
        self.exact(check_edition(OLD, NEW, start, NoEdition("", right)), True)
        self.exact(check_edition(OLD, NEW, start, NoEdition("go", right)), False)
        self.exact(check_edition(OLD, NEW, start, NoEdition("up", right)), True)

    def test_dead_steps(self):
        old = plan_of("t: s -> e\nz: y -> e")
        carry = (("e", heap(y=1)), ("s", heap(x=1)), ("y", heap(x=2)))
        self.exact(check_edition(old, NEW, carry, Edition((("", ()), ("t", (("do", 1),))))), True)
        self.exact(check_edition(old, NEW, carry, Edition((("", ()), ("t", (("do", 1),)), ("z", ())))), False)
        self.exact(check_edition(old, NEW, carry, NoEdition("z", ((("x", (1, 2)), ("y", (1, 2))), (1, 2)))), False)

    def test_any_values(self):
        for value in ODD + (nested(80), Whole(()), Sure(())):
            self.exact(check_edition(OLD, NEW, TWO, value), False)
            self.exact(check_edition(OLD, NEW, PLAIN, Edition(value)), False)
            self.exact(check_edition(OLD, NEW, PLAIN, Edition((value,) * 3)), False)
            self.exact(check_edition(OLD, NEW, TWO, NoEdition("go", value)), False)
            self.exact(check_edition(OLD, NEW, TWO, NoEdition(value, ((("x", (1, 2)), ("y", (1, 2))), (1, 2)))), False)

    def test_equal(self):
        kept = ["x"]
        self.assertIs(Edition(sums=kept).sums, kept)
        self.assertIs(NoEdition(word=kept, fractions=None).word, kept)
        self.assertIs(NoEdition(None, kept).fractions, kept)
        self.assertTrue(Edition(kept) == Edition(["x"]) and NoEdition("a", kept) == NoEdition("a", ["x"]))
        self.assertFalse(Edition(kept) == Edition(["y"]) or NoEdition("a", kept) == NoEdition("b", kept))
        self.assertFalse(NoEdition("a", kept) == NoEdition("a", ["y"]) or Edition(kept) == NoEdition("", kept) or NoEdition("", kept) == Edition(kept) or Edition(kept) == kept)
        for kind in (Edition, NoEdition):
            self.assertIn("__eq__", vars(kind))


def once_by_hand(old, new, carry, crew, most):
    endings = []
    for cases, papers in least_heaps(old):
        found = walk_by_hand(new, crew, carried_by_hand(carry, papers), most)
        if found is None:
            return "Wide", (("cases", cases), ("heap", papers))
        if ends(new, cases) not in found:
            return "Unsure", (("cases", cases), ("heap", papers), ("lot", tuple(sorted(found))))
        endings.append(found[ends(new, cases)])
    return "Sure", (("endings", tuple(endings)),)


class Once(Case):
    def test_examples(self):
        carry = (("a", (("x", 1),)), ("b", (("y", 1),)), ("c", (("y", 1),)))
        lost = once(OLD, NEW, carry, (), 100)
        self.exact((lost.cases, lost.heap, lost.lot, once(OLD, NEW, carry, ("do",), 100).endings),
                   (1, (("a", 1),), ((("x", 1),),), (("do",), (), ())))

    def test_by_hand(self):
        rng = generator(156)
        counts = {}
        for _ in range(300):
            old = whole_plan(rng, 1)
            new = whole_plan(rng, 1) if rng.random() < 0.7 else plan_of(rng.choice(STUCK + GROWING[1:]))
            carry = some_carry(rng, old, new) if whole_or_not(new, 4000) else tuple(
                (place, ends(new, 1) if place == old.end else random_heap(rng, new.places, 2, 2)) for place in old.places)
            names = names_of(new)
            crew = tuple(sorted(rng.sample(names, rng.randint(max(0, len(names) - 1), len(names)))))
            most = max(len(walk_by_hand(old, live_of(old), papers)) for _, papers in least_heaps(old)) + rng.choice((0, 0, 0, 2, 40))
            told = self.unchanged(once, old, new, carry, crew, most)
            expected = once_by_hand(old, new, carry, crew, most)
            self.exact((type(told).__name__, tuple(sorted(vars(told).items()))), expected)
            self.exact(check_once(old, new, carry, crew, told), expected[0] != "Wide")
            counts[expected[0]] = counts.get(expected[0], 0) + 1
        self.assertGreater(min(counts[name] for name in ("Sure", "Unsure", "Wide")), 10)

    def test_same_plan_is_sure_itself(self):
        rng = generator(157)
        for _ in range(40):
            plan = whole_plan(rng)
            crew = tuple(sorted(rng.sample(names_of(plan), rng.randint(0, len(plan.steps)))))
            self.assertTrue(once(plan, plan, same_carry(plan), crew, 4000) == sure(plan, crew, 4000))

    def test_refusals_in_order(self):
        grows = plan_of("t: x -> m\nu: m -> 2 m\nv: m -> y", "x", "y")
        self.refused(NoName, {"name": "nn"}, once, plan_of(""), grows, (), ("nn", "u"), 1)
        self.refused(NoName, {"name": "go"}, once, OLD, NEW, PLAIN, ("go",), 9)
        for text in STUCK + GROWING:
            old = plan_of(text)
            carry = tuple((place, heap(y=1)) for place in old.places)
            self.refused(Refused, {"word": "whole"}, once, old, grows, carry, ("u",), 4000)
        self.refused(Refused, {"word": "whole"}, once, OLD, grows, PLAIN, ("u",), 2)
        self.refused(Refused, {"word": "weights"}, once, OLD, grows, PLAIN, ("u",), 3)
        self.refused(Refused, {"word": "weights"}, once, OLD, grows, PLAIN, ("t", "u", "v"), 3)
        self.assertTrue(once(OLD, grows, PLAIN, ("t", "v"), 3) == Sure((("t", "v"), ("t", "v"), ())))

    def test_any_carry_and_any_new_plan(self):
        dead = plan_of("t: x -> y\nz: w -> y", "x", "y")
        carry = (("a", heap(w=1)), ("b", heap(w=1)), ("c", heap(y=1)))
        self.assertTrue(once(OLD, dead, carry, ("z",), 3) == Sure((("z",), ("z",), ())))
        self.assertTrue(once(OLD, dead, carry, ("t",), 3) == Unsure(1, heap(a=1), (heap(w=1),)))
        self.assertTrue(once(OLD, dead, (("a", ()), ("b", ()), ("c", heap(y=1))), ("z",), 3) == Unsure(1, heap(a=1), ((),)))
        stuck = plan_of("p: x -> 2 m\nq: 3 m -> y", "x", "y")
        self.assertTrue(once(OLD, stuck, (("a", heap(m=3)), ("b", heap(m=3)), ("c", heap(y=1))), ("q",), 3) == Sure((("q",), ("q",), ())))

    def test_wide_and_lost_in_order(self):
        wide = plan_of("t: x -> m\nu: m -> n\nv: n -> k\nw: k -> y", "x", "y")
        crew = names_of(wide)
        self.assertTrue(once(OLD, wide, (("a", heap(x=1)), ("b", ()), ("c", heap(y=1))), crew, 4) == Wide(1, heap(a=1)))
        self.assertTrue(once(OLD, wide, (("a", heap(x=1)), ("b", ()), ("c", heap(y=1))), crew, 5) == Unsure(1, heap(b=1), ((),)))
        self.assertTrue(once(OLD, wide, (("a", ()), ("b", heap(x=1)), ("c", heap(y=1))), crew, 4) == Unsure(1, heap(a=1), ((),)))

    def test_check_once(self):
        right, crew = (("do",), ("do",), ()), ("do",)
        self.exact(check_once(OLD, NEW, PLAIN, crew, Sure(right)), True)
        self.exact(check_once(OLD, NEW, PLAIN, (), Sure(right)), False)
        for at in range(3):
            self.exact(check_once(OLD, NEW, PLAIN, crew, Sure(right[:at] + right[at + 1:])), False)
            for wrong in (list(right[at]), right[at] + ("do",), tuple((name, 1) for name in right[at]) + (("do", 1),), None, ("go",)):
                self.exact(check_once(OLD, NEW, PLAIN, crew, Sure(right[:at] + (wrong,) + right[at + 1:])), False)
        for value in (right[::-1], list(right), (), None, right + ((),)):
            self.exact(check_once(OLD, NEW, PLAIN, crew, Sure(value)), False)
        lot = (heap(x=2),)
        self.exact(check_once(OLD, NEW, TWO, (), Unsure(1, heap(b=1), lot)), True)
        self.exact(check_once(OLD, NEW, TWO, (), Unsure(1, heap(b=1), (heap(x=1), heap(x=2)))), True)
        lost = (heap(x=1, y=1), heap(x=2), heap(y=2))
        self.exact(check_once(OLD, NEW, TWO, crew, Unsure(1, heap(b=1), lost)), True)
        self.exact(check_once(OLD, NEW, TWO, crew, Unsure(2, heap(b=2), tuple(sorted(heap(**{key: number for key, number in
                                                          (("x", 4 - k), ("y", k)) if number}) for k in range(5))))), True)
        for cases, papers, heaps in ((2, heap(b=1), lost), (0, heap(b=1), lost), (True, heap(b=1), lost), (1, heap(a=1), lost),
                                     (1, heap(x=2), lost), (1, heap(b=1), lost[:2]), (1, heap(b=1), list(lost)), (1, heap(b=1), lost[::-1]),
                                     (1, list(heap(b=1)), lost), (1, heap(b=1), lost + (heap(z=1),)), (1, heap(b=1), (heap(b=1),) + lost),
                                     (None, None, None), (1, heap(b=2), lost), (1, heap(b=1), tuple(sorted(lost + (heap(y=1),))))):
            self.exact(check_once(OLD, NEW, TWO, crew, Unsure(cases, papers, heaps)), False)
        # The pair belongs to the old plan, whether it is whole or not.
        old = plan_of("p: s -> 2 a\nq: 3 a -> e")
        carry = (("a", heap(x=1)), ("e", heap(y=1)), ("s", heap(x=2)))
        self.exact(check_once(old, NEW, carry, (), Unsure(1, heap(a=2), lot)), True)
        self.exact(check_once(old, NEW, carry, (), Unsure(1, heap(a=1), (heap(x=1),))), False)

    def test_check_once_refusals_and_any_values(self):
        for text in GROWING:
            old = plan_of(text)
            carry = tuple((place, heap(y=1)) for place in old.places)
            for value in (Sure(()), Sure(((),) * 3), Unsure(1, heap(s=1), (heap(y=1),))):
                self.exact(check_once(old, NEW, carry, (), value), False)
        self.refused(NoName, {"name": "nn"}, check_once, OLD, NEW, PLAIN, ("do", "nn"), None)
        for value in ODD + (nested(80), Wide(1, heap(a=1)), Whole((("do",), ("do",), ())), Stuck(1, heap(b=1), (heap(x=2),))):
            self.exact(check_once(OLD, NEW, PLAIN, ("do",), value), False)
            for told in (Sure(value), Sure((value,) * 3), Unsure(value, heap(a=1), (heap(x=1),)), Unsure(1, value, (heap(x=1),)),
                         Unsure(1, heap(a=1), value), Unsure(1, heap(a=1), (value,))):
                # A bool is no number here, though it is equal to one.
                right = isinstance(told, Unsure) and repr((told.cases, told.heap, told.lot)) == repr((1, heap(a=1), (heap(x=1),)))
                self.exact(check_once(OLD, NEW, PLAIN, (), told), right)

    def test_greatest(self):
        lines = ["in: s -> 7 a", "out: 7 a -> e"] + [f"{one}{two}: {one} -> {two}" for one, two in ("ab", "bc", "ca", "ac", "cb", "ba")]
        plan = plan_of("\n".join(lines))
        for _ in range(5):
            told = once(plan, plan, same_carry(plan), names_of(plan), 4000)
            self.exact((type(told), check_once(plan, plan, same_carry(plan), names_of(plan), told)), (Sure, True))
            self.assertTrue(isinstance(edition(plan, plan, same_carry(plan), 4000), Edition))
            self.assertTrue(isinstance(edition(GREAT, GREAT, same_carry(GREAT), 4000), Edition))
            self.exact(can_carry(GREAT, GREAT, same_carry(GREAT), 9, heap(x=9), 4000), True)
            told = once(GREAT, GREAT, same_carry(GREAT), names_of(GREAT), 2003)
            self.exact((type(told), check_once(GREAT, GREAT, same_carry(GREAT), names_of(GREAT), told)), (Sure, True))


if __name__ == "__main__":
    unittest.main()
