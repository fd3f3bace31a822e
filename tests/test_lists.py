"""[28] to [30]: least heaps."""

import itertools
import unittest

from caseshome.errors import Refused
from caseshome.lists import check_lists, least_heaps, least_lists, width_of
from caseshome.plans import Plan
from tests.byhand import form_by_hand, is_sum_by_hand
from tests.helpers import (ODD, Case, change_by_hand, generator, heap, live_by_hand, nested, plan_of, weighed_plan)

PLAN = Plan(("a", "e", "s"), (("fork", (("s", 1),), (("a", 2),)), ("join", (("a", 2),), (("e", 1),))), "s", "e")
LISTS = (((-2,), (2,)), ((0, -1), (0, 1), (2, 0)), ((0, 0, -1), (0, 0, 1), (0, 1, 0), (2, 0, 0)),
         ((0, 0, 1, 1), (0, 1, 0, 1), (2, 0, 0, 1)))
BARE = Plan(("a", "b"), (), "a", "b")
GROWS = plan_of("t: s -> a\nu: a -> 2 a\nv: a -> e")
# 41 wide, with 40 least heaps: seven papers over three places, and one paper in one of four.
WIDE = plan_of("a: p -> z\nb: z -> u\nc: u -> 7 r\nd: r -> h\nf: h -> g\ng: 7 g -> w", "p", "w")


def form_of(plan):
    live = live_by_hand(plan)[1]
    rows = [tuple(change_by_hand(step).get(place, 0) for place in plan.places) + (0,)
            for step in plan.steps if step[0] in live]
    return form_by_hand(rows + [tuple(int(place == plan.start) for place in plan.places) + (1,)])


def is_open(form, row):
    """Whether it is an open beginning of the sums of the form."""
    begun = form_by_hand([head[:len(row)] for head in form])
    return any(row) and all(number >= 0 for number in row[:-1]) and is_sum_by_hand(begun, row)


def lies_in(row, other):
    return (all(one <= two for one, two in zip(row[:-1], other[:-1])) and row[-1] * other[-1] >= 0
            and abs(row[-1]) <= abs(other[-1]))


def singles_by_hand(plan, bound):
    """The single beginnings of all lengths with no number above a bound in them, by trying all."""
    form, found = form_of(plan), []
    for length in range(1, len(plan.places) + 2):
        begun = form_by_hand([head[:length] for head in form])
        rows = [row for row in itertools.product(*[range(bound + 1)] * (length - 1), range(-bound, bound + 1))
                if any(row) and is_sum_by_hand(begun, row)]
        least = []
        for row in sorted(rows, key=lambda one: sum(abs(number) for number in one)):
            if not any(lies_in(other, row) for other in least):
                least.append(row)
        found.append(tuple(sorted(least)))
    return tuple(found)


def least_by_hand(plan, bound):
    """The least heaps with no number above a bound, by trying all."""
    form, pairs = form_of(plan), []
    for row in itertools.product(range(bound + 1), repeat=len(plan.places)):
        for cases in range(1, bound * len(row) + 1):
            if is_sum_by_hand(form, row + (cases,)):
                pairs.append((cases, row))
    least = [(cases, row) for cases, row in pairs
             if not any(other != (cases, row) and all(one <= two for one, two in zip(other[1], row)) for other in pairs)]
    return tuple(sorted((cases, tuple((place, number) for place, number in zip(plan.places, row) if number))
                        for cases, row in least))


def below(rows, bound):
    return tuple(row for row in rows if max(abs(number) for number in row) <= bound)


class Least(Case):
    def test_examples(self):
        self.exact((least_heaps(PLAN), width_of(PLAN), least_lists(PLAN)),
                   (((1, (("a", 2),)), (1, (("e", 1),)), (1, (("s", 1),))), 4, LISTS))

    def test_no_weights(self):
        for plan in (GROWS, plan_of("t: s -> a\nu: s -> 2 a"), plan_of("t: s -> a\nu: a -> a, e")):
            for function in (least_heaps, least_lists, width_of):
                self.refused(Refused, {"word": "weights"}, function, plan)
                self.refused(Refused, {"word": "weights"}, function, plan=plan)
            for value in (LISTS, (), None, ((), (), (), ()), tuple(() for _ in range(len(plan.places) + 1))):
                self.exact(check_lists(plan, value), False)

    def test_no_steps(self):
        self.exact((least_heaps(BARE), width_of(BARE), least_lists(BARE)),
                   (((1, (("a", 1),)),), 2, (((-1,), (1,)), ((1, 0),), ((1, 0, 1),))))
        other = Plan(("a", "b"), (), "b", "a")
        self.exact((least_heaps(other), width_of(other), least_lists(other)),
                   (((1, (("b", 1),)),), 2, ((), ((0, -1), (0, 1)), ((0, 1, 1),))))

    def test_known_by_their_shape(self):
        one = [heap(s=1), heap(e=1)]
        shapes = (("t: s -> e", one), ("t: s -> a\nu: a -> b\nv: b -> e", one + [heap(a=1), heap(b=1)]),
                  ("t: s -> a\nz: y -> e", one[:1] + [heap(a=1)]),
                  ("f: s -> a, b\ng: a -> c\nh: b -> d\nj: c, d -> e",
                   one + [heap(a=1, b=1), heap(a=1, d=1), heap(b=1, c=1), heap(c=1, d=1)]),
                  ("t: s -> 3 a\nu: a -> b\nv: 3 b -> e",
                   one + [heap(a=3), heap(a=2, b=1), heap(a=1, b=2), heap(b=3)]),
                  ("f: s -> a, b\ng: a, b -> e\nh: 2 a -> 2 c\nk: b, c -> e", one + [heap(a=1, b=1), heap(b=1, c=1)]),
                  ("t: s -> 2 a\nu: 2 a -> 2 b\nv: 2 b -> e", one + [heap(a=2), heap(b=2)]),
                  ("t: s -> 9 a\nu: 9 a -> e", one + [heap(a=9)]))
        for text, heaps in shapes:
            plan = plan_of(text)
            self.exact(least_heaps(plan), tuple(sorted((1, papers) for papers in heaps)))

    def test_more_cases(self):
        for text, pairs in (("p: s -> 2 a\nq: 3 a -> e", ((1, heap(a=2)), (1, heap(s=1)), (2, heap(a=1, e=1)), (3, heap(e=2)))),
                            ("t: 2 s -> a\nu: a -> 2 e", ((1, heap(s=1)), (2, heap(a=1)), (2, heap(e=2)))),
                            ("t: 2 s -> 2 e", ((1, heap(s=1)), (2, heap(e=2))))):
            self.exact(least_heaps(plan_of(text)), pairs)

    def test_lists_by_hand(self):
        rng = generator(60)
        whole = 0
        for _ in range(60):
            plan = weighed_plan(rng, rng.randint(2, 3), rng.randint(0, 3), 3, 4)
            found, bound = self.unchanged(least_lists, plan), 6
            self.tuples_within(found)
            self.exact(tuple(below(rows, bound) for rows in found), singles_by_hand(plan, bound))
            whole += all(below(rows, bound) == rows for rows in found)
            self.exact(width_of(plan), max(len(rows) for rows in found))
        self.assertGreater(whole, 40)

    def test_a_beginning_goes_on_with_more_than_the_least_number(self):
        plan = plan_of("a: s -> 2 f\nb: 3 s -> 6 t\nc: 4 f, 3 t -> 3 e, f")
        found = least_lists(plan)
        self.exact(found[3:], (((0, 0, 0, -6), (0, 0, 0, 6), (0, 0, 1, 0), (0, 2, 0, 0), (3, 1, 0, -3), (3, 1, 0, 3),
                                (6, 0, 0, 0)),
                               ((0, 0, 0, 6, 3), (0, 0, 1, 0, 1), (0, 2, 0, 0, 1), (3, 1, 0, 3, 5), (6, 0, 0, 0, 6))))
        self.exact(found, singles_by_hand(plan, 6))

    def test_heaps_by_hand(self):
        rng = generator(61)
        many = 0
        for _ in range(40):
            plan = weighed_plan(rng, 4, rng.randint(1, 4), 2, 2)
            found = self.unchanged(least_heaps, plan)
            self.tuples_within(found)
            small = tuple(pair for pair in found if max(number for _, number in pair[1]) <= 3)
            self.exact(small, least_by_hand(plan, 3))
            many += len(small) > 3
            self.exact(found, tuple(sorted((row[-1], tuple((place, number) for place, number in zip(plan.places, row) if number))
                                           for row in least_lists(plan)[-1])))
        self.assertGreater(many, 3)

    def test_each_of_the_least(self):
        rng = generator(62)
        for _ in range(60):
            plan = weighed_plan(rng, 6, 5)
            form, found = form_of(plan), least_heaps(plan)
            rows = [tuple(dict(papers).get(place, 0) for place in plan.places) + (cases,) for cases, papers in found]
            for row in rows:
                self.assertTrue(row[-1] >= 1 and is_sum_by_hand(form, row))
                self.exact([other for other in rows if lies_in(other, row)], [row])
            self.assertIn((1, ((plan.start, 1),)) if plan.steps else found[0], found)

    def test_greatest(self):
        found = least_heaps(WIDE)
        sevens = [tuple((place, number) for place, number in zip("ghr", numbers) if number)
                  for numbers in itertools.product(range(8), repeat=3) if sum(numbers) == 7]
        self.exact(found, tuple(sorted((1, papers) for papers in sevens + [heap(p=1), heap(u=1), heap(w=1), heap(z=1)])))
        self.exact((len(found), width_of(WIDE)), (40, 41))
        lists = least_lists(WIDE)
        for _ in range(20):
            self.exact((least_lists(WIDE), check_lists(WIDE, lists)), (lists, True))
        branches = plan_of("f: s -> a, b, c\nd: a -> aa\ng: aa -> ab\nh: b -> ba\ni: ba -> bb\nj: c -> ca\nk: ca -> cb\n"
                           "l: cb -> cc\nm: ab, bb, cc -> e")
        expected = [heap(s=1), heap(e=1)] + [heap(**{one: 1, two: 1, three: 1}) for one in ("a", "aa", "ab")
                                             for two in ("b", "ba", "bb") for three in ("c", "ca", "cb", "cc")]
        self.exact(len(branches.places), 12)
        for _ in range(20):
            self.exact(least_heaps(branches), tuple(sorted((1, papers) for papers in expected)))

    def test_great_numbers(self):
        places = "sabcdfghijk"
        plan = plan_of("\n".join(f"{one}{two}: 9 {one} -> {two}" for one, two in zip(places, places[1:])))
        self.exact(len(plan.places), 12)
        self.exact(least_heaps(plan), tuple((9 ** k, heap(**{place: 1})) for k, place in enumerate(places)))
        self.exact(check_lists(plan, least_lists(plan)), True)


class Checked(Case):
    def test_examples(self):
        self.exact((check_lists(PLAN, LISTS),
                    check_lists(PLAN, (LISTS[0], ((0, -1), (0, 1), (0, 2), (2, 0)), LISTS[2], LISTS[3])),
                    check_lists(PLAN, LISTS[:3] + (LISTS[3][:2],)), check_lists(PLAN, None)), (True, True, False, False))
        self.exact(check_lists(value=LISTS, plan=PLAN), True)

    def with_list(self, at, rows, lists=LISTS):
        return lists[:at] + (rows,) + lists[at + 1:]

    def test_more_that_are_open(self):
        for at, more in ((0, ((-4,),)), (0, ((4,), (10 ** 50 * 2,))), (1, ((0, 7), (4, -3))), (1, ((2, -5),)), (2, ((2, 2, -9),)),
                         (3, ((0, 1, 1, 2), (4, 1, 0, 3))), (3, ((2 * 10 ** 30, 0, 0, 10 ** 30),))):
            self.exact(check_lists(PLAN, self.with_list(at, tuple(sorted(LISTS[at] + more)))), True)

    def test_what_is_not_open(self):
        for at, more in ((0, (0,)), (0, (3,)), (0, (-1,)), (1, (0, 0)), (1, (1, 0)), (1, (-2, 1)), (2, (2, -1, 0)), (2, (0, 0, 0)),
                         (2, (1, 1, 1)), (3, (0, 0, 1, 2)), (3, (2, 0, 0, 2)), (3, (0, 0, 0, 0)), (3, (0, 2, -1, 1)), (3, (0, 0, 0, 1)),
                         (1, (0, 1, 0)), (1, (2,)), (3, (0, 0, 2)), (0, ()), (3, (1, 1, 0, 1))):
            self.exact(check_lists(PLAN, self.with_list(at, tuple(sorted(LISTS[at] + (more,))))), False)

    def test_order(self):
        for at, rows in enumerate(LISTS):
            self.exact(check_lists(PLAN, self.with_list(at, rows[::-1])), False)
            self.exact(check_lists(PLAN, self.with_list(at, rows + rows[-1:])), False)
            self.exact(check_lists(PLAN, self.with_list(at, rows[:1] + rows)), False)
            self.exact(check_lists(PLAN, self.with_list(at, rows[1:2] + rows[:1] + rows[2:])), False)

    def test_shape(self):
        for value in (LISTS[:3], LISTS[1:], LISTS + ((),), LISTS + (LISTS[3],), list(LISTS), (), ((), (), (), ()), LISTS[::-1],
                      [list(rows) for rows in LISTS], (None,) * 4, (1,) * 4, ("abcd",) * 4):
            self.exact(check_lists(PLAN, value), False)
        for at, rows in enumerate(LISTS):
            for wrong in (list(rows), None, 1, "a", tuple(list(row) for row in rows), rows[:1], (), rows + (None,), (rows,),
                          (1,), ("ab",)):
                self.exact(check_lists(PLAN, self.with_list(at, wrong)), False)
            for k, row in enumerate(rows):
                for wrong in (list(row), row + (0,), row[1:], None, 1, tuple(str(number) for number in row), (row,),
                              tuple((number,) for number in row)):
                    self.exact(check_lists(PLAN, self.with_list(at, rows[:k] + (wrong,) + rows[k + 1:])), False)
                bools = tuple(bool(number) if number in (0, 1) else number for number in row)
                if bools != row or any(number in (0, 1) for number in row):
                    self.exact(check_lists(PLAN, self.with_list(at, rows[:k] + (bools,) + rows[k + 1:])), False)

    def test_any_values(self):
        for value in ODD + (nested(80), (nested(79),) * 4):
            self.exact(check_lists(PLAN, value), False)
            self.exact(check_lists(BARE, value), False)

    def test_one_that_lacks(self):
        rng = generator(63)
        for _ in range(60):
            plan = weighed_plan(rng, rng.randint(2, 6), rng.randint(0, 5), 3, 3)
            lists = least_lists(plan)
            self.exact(self.unchanged(check_lists, plan, lists), True)
            for at, rows in enumerate(lists):
                for k in range(len(rows)):
                    self.exact(check_lists(plan, self.with_list(at, rows[:k] + rows[k + 1:], lists)), False)

    def test_more_or_wrong_by_chance(self):
        rng = generator(64)
        counts = [0, 0]
        for _ in range(60):
            plan = weighed_plan(rng, rng.randint(2, 5), rng.randint(1, 4))
            lists, form = least_lists(plan), form_of(plan)
            for _ in range(6):
                at = rng.randrange(len(lists))
                if not lists[at]:
                    continue
                one, two = rng.choice(lists[at]), rng.choice(lists[at])
                row = tuple(x + y for x, y in zip(one, two)) if rng.random() < 0.5 else one[:-1] + (one[-1] + rng.randint(-1, 1),)
                if row in lists[at]:
                    continue
                value = self.with_list(at, tuple(sorted(lists[at] + (row,))), lists)
                self.exact(check_lists(plan, value), is_open(form, row))
                counts[is_open(form, row)] += 1
        self.assertGreater(min(counts), 20)

    def test_dead_steps(self):
        plan = plan_of("t: s -> 2 a\nu: 2 a -> e\nz: y -> 2 y\nx: y, s -> e")
        lists = least_lists(plan)
        self.exact(check_lists(plan, lists), True)
        self.exact(least_heaps(plan), ((1, heap(a=2)), (1, heap(e=1)), (1, heap(s=1))))
        self.assertTrue(all(row[3] == 0 for row in lists[3] + lists[4]))


if __name__ == "__main__":
    unittest.main()
