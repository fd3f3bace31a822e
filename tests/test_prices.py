"""[59] to [62]: prices, rounds and the costs of many cases."""

import unittest
from fractions import Fraction

from caseshome.court import Whole
from caseshome.errors import Refused
from caseshome.plans import names_of
from caseshome.plantext import read_plan
from caseshome.prices import (check_mean, check_rounds, cost_of, cost_row, greatest_mean, least_mean, rounds_of,
                              spare_cost)
from caseshome.simplex import Best, Endless, Never, least_cost
from tests.byhand import is_fraction_by_hand
from tests.helpers import ODD, Case, change_by_hand, generator, nested, plan_of, step_by_hand, triple_of
from tests.search import (GREAT, GROWING, STUCK, WHOLE, cheapest_by_hand, ends, live_of, starts, walk_by_hand,
                          whole_plan)

PACK = read_plan("start s\nend e\nstep go: s -> a\nstep home: a -> e\nstep pack: 7 a -> 7 e")
COSTS = (("go", 2), ("home", 3), ("pack", 7))
# Its takes are a half and a third of times: a bottom of 6.
SIXTH = plan_of("a: s -> b\nc: 2 b -> 2 e\nd: b -> f\ng: 3 f -> 3 e\nh: b -> e")
THIRDS = plan_of("a: s -> b\nc: 2 b -> 2 e\nd: b -> f\ng: 3 f -> 3 e\nh: b -> e\ni: f -> e")
# A ring of steps that costs something; a dead step beside it.
RING = plan_of("in: s -> a\nback: a -> b\nturn: b -> a\nout: a -> e\nz: y -> e")


def costs_for(plan, rng, most=5):
    return tuple((name, rng.randint(0, most)) for name in names_of(plan))


def change_at(plan, name, place):
    return change_by_hand(triple_of(plan, name)).get(place, 0)


def is_best(plan, costs, best, sign=1):
    """Whether takes and prices show each other best, by the words of [59]."""
    live, cost_by = live_of(plan), dict(costs)
    if len(best.takes) != len(live) or len(best.prices) != len(plan.places):
        return False
    takes = [Fraction(*one) for one in best.takes]
    prices = dict(zip(plan.places, [Fraction(*one) for one in best.prices]))
    for place in plan.places:
        due = (place == plan.end) - (place == plan.start)
        if sum(take * change_at(plan, name, place) for name, take in zip(live, takes)) != due:
            return False
    for name in live:
        worth = sum(prices[place] * change_at(plan, name, place) for place in plan.places)
        if worth > sign * cost_by[name]:
            return False
    cost = sum(take * sign * cost_by[name] for name, take in zip(live, takes))
    return min(takes) >= 0 and cost == Fraction(*best.cost) == prices[plan.end] - prices[plan.start]


def taken_in_all(plan, best, bottom):
    """What the live steps take together in so many times the takes."""
    papers = {}
    for name, take in zip(live_of(plan), best.takes):
        number = bottom * Fraction(*take)
        assert number.denominator == 1
        for place, many in triple_of(plan, name)[1]:
            papers[place] = papers.get(place, 0) + int(number) * many
    return papers


def behind_run(plan, papers, run):
    """The papers behind a run of not too many single steps, None if it cannot be done."""
    for name, many in run:
        for _ in range(many):
            papers = step_by_hand(papers, triple_of(plan, name))
            if papers is None:
                return None
    return papers


def are_rounds(plan, best, value):
    """Whether a quadruple is one of [60], its runs gone through step by step."""
    cases, bottom, ahead, behind = value
    if type(cases) is not int or type(bottom) is not int or cases < 1 or bottom < 1:
        return False
    between = behind_run(plan, dict(starts(plan, cases)), ahead)
    if between is None or behind_run(plan, between, behind) != dict(ends(plan, cases)):
        return False
    taken = taken_in_all(plan, best, bottom)
    return all(number <= between.get(place, 0) for place, number in taken.items())


class Means(Case):
    def test_examples(self):
        self.exact((least_mean(PACK, COSTS, 2000).cost, greatest_mean(PACK, COSTS, 2000).cost), ((3, 1), (-5, 1)))

    def test_shapes(self):
        rng = generator(140)
        for text in WHOLE:
            plan = plan_of(text)
            for _ in range(12):
                costs = costs_for(plan, rng)
                best = self.unchanged(least_mean, plan, costs, 2000)
                self.assertIs(type(best), Best)
                self.assertTrue(is_best(plan, costs, best))
                self.tuples_within((best.cost, best.takes, best.prices))
                for one in (best.cost, *best.takes, *best.prices):
                    self.assertTrue(is_fraction_by_hand(one))
                self.exact(check_mean(plan, costs, best), True)

    def test_by_chance(self):
        rng = generator(141)
        for _ in range(120):
            plan = whole_plan(rng)
            costs = costs_for(plan, rng, rng.choice((1, 5, 999999)))
            best = least_mean(plan, costs, 2000)
            self.assertTrue(is_best(plan, costs, best))
            self.exact(check_mean(plan, costs, best), True)
            self.exact(Fraction(*best.cost) >= 0, True)

    def test_known_costs(self):
        for costs, cost in (((0, 0, 0), (0, 1)), ((1, 1, 0), (1, 1)), ((0, 1, 1), (1, 7)), ((0, 1, 6), (6, 7)),
                            ((0, 1, 7), (1, 1)), ((0, 1, 8), (1, 1)), ((999999, 999999, 0), (999999, 1))):
            self.exact(least_mean(PACK, tuple(zip(("go", "home", "pack"), costs)), 9).cost, cost)
        fork = plan_of("fork: s -> 2 a\njoin: 2 a -> e\none: a -> b\nlast: 2 b -> e")
        self.exact(least_mean(fork, (("fork", 1), ("join", 9), ("last", 2), ("one", 3)), 9).cost, (9, 1))
        self.exact(least_mean(fork, (("fork", 1), ("join", 10), ("last", 2), ("one", 3)), 9).cost, (9, 1))

    def test_dead_steps_cost_nothing(self):
        dead = plan_of("go: s -> e\nz: y -> e")
        best = least_mean(dead, (("go", 3), ("z", 0)), 9)
        self.exact((best.cost, best.takes, len(best.prices)), ((3, 1), ((1, 1),), 3))
        self.exact(check_mean(dead, (("go", 3), ("z", 0)), Best((3, 1), ((1, 1),), ((3, 1), (0, 1), (-9, 2)))), True)

    def test_many_cases_never_cost_less(self):
        rng = generator(142)
        for text in WHOLE:
            plan = plan_of(text)
            for _ in range(2):
                costs = costs_for(plan, rng)
                mean = Fraction(*least_mean(plan, costs, 2000).cost)
                row = cost_row(plan, costs, 300, 5)
                for cases, cost in enumerate(row):
                    self.assertGreaterEqual(cost, cases * mean)

    def test_refused(self):
        for text in STUCK + GROWING:
            plan = plan_of(text)
            costs = tuple((name, 1) for name in names_of(plan))
            self.refused(Refused, {"word": "whole"}, least_mean, plan, costs, 2000)
            self.refused(Refused, {"word": "whole"}, greatest_mean, plan, costs, 2000)
            self.refused(Refused, {"word": "whole"}, rounds_of, plan, costs, 2000)
        self.refused(Refused, {"word": "whole"}, least_mean, PACK, COSTS, 2)
        self.refused(Refused, {"word": "whole"}, greatest_mean, PACK, COSTS, 2)
        self.refused(Refused, {"word": "whole"}, rounds_of, PACK, COSTS, 2)
        self.exact(least_mean(PACK, COSTS, 3).cost, (3, 1))

    def test_check_mean_wants_all_of_it(self):
        best = Best((3, 1), ((1, 1), (0, 1), (1, 7)), ((2, 1), (3, 1), (0, 1)))
        self.exact(check_mean(PACK, COSTS, best), True)
        self.exact(check_mean(PACK, COSTS, Best(best.cost, best.takes, ((1, 1), (2, 1), (-1, 1)))), True)
        for cost in ((4, 1), (6, 2), (-3, 1), 3, (3, True), [3, 1], None, (3,), (3, 1, 1)):
            self.exact(check_mean(PACK, COSTS, Best(cost, best.takes, best.prices)), False)
        for at in range(3):
            for wrong in ((2, 1), (-1, 1), (2, 2), None, 1, [1, 1], (True, 1), (1, 7, 1)):
                if wrong != best.takes[at]:
                    takes = best.takes[:at] + (wrong,) + best.takes[at + 1:]
                    self.exact(check_mean(PACK, COSTS, Best(best.cost, takes, best.prices)), False)
                if wrong != best.prices[at]:
                    prices = best.prices[:at] + (wrong,) + best.prices[at + 1:]
                    self.exact(check_mean(PACK, COSTS, Best(best.cost, best.takes, prices)), False)
        for part in (best.takes[:2], best.takes + ((0, 1),), list(best.takes), best.takes[::-1], None, ()):
            self.exact(check_mean(PACK, COSTS, Best(best.cost, part, best.prices)), False)
        for part in (best.prices[:2], best.prices + ((0, 1),), list(best.prices), best.prices[::-1], None, ()):
            self.exact(check_mean(PACK, COSTS, Best(best.cost, best.takes, part)), False)
        # Another cost of a step: the same prices show no more, or the takes cost more.
        self.exact(check_mean(PACK, (("go", 2), ("home", 3), ("pack", 6)), best), False)
        self.exact(check_mean(PACK, (("go", 2), ("home", 2), ("pack", 7)), best), True)
        self.exact(check_mean(PACK, (("go", 2), ("home", 0), ("pack", 7)), best), False)

    def test_check_mean_of_any_plan(self):
        growing = plan_of("t: s -> 2 e\nu: s -> e")
        best = Best((5, 1), ((0, 1), (1, 1)), ((-5, 1), (-10, 1)))
        self.exact(check_mean(growing, (("t", 0), ("u", 5)), best), True)
        self.exact(check_mean(growing, (("t", 0), ("u", 5)), Best(best.cost, best.takes, ((5, 1), (0, 1)))), False)
        self.exact(check_mean(growing, (("t", 1), ("u", 0)), best), False)
        stuck = plan_of("end: 3 b -> 3 e\ngo: s -> e\npack: 2 s -> 2 b")
        found = Best((2, 1), ((1, 3), (0, 1), (1, 2)), ((1, 1), (2, 1), (0, 1)))
        self.exact(check_mean(stuck, (("end", 3), ("go", 9), ("pack", 2)), found), True)
        self.exact(check_mean(stuck, (("end", 3), ("go", 1), ("pack", 2)), found), False)
        nothing = plan_of("")
        for value in ODD + (best, Best((0, 1), (), ((0, 1), (0, 1))), Best((0, 1), (), ())):
            self.exact(check_mean(nothing, (), value), False)

    def test_check_mean_of_any_values(self):
        best = least_mean(PACK, COSTS, 9)
        for value in ODD + (nested(80), Never(best.prices), Endless(best.takes, best.takes), Whole(()), (best,), [best],
                            (best.cost, best.takes, best.prices), Best(best, best, best), Best(PACK, (PACK,), [PACK])):
            self.exact(check_mean(PACK, COSTS, value), False)
        for value in ODD:
            for told in (Best(value, best.takes, best.prices), Best(best.cost, value, best.prices),
                         Best(best.cost, best.takes, value), Best(best.cost, (value,) * 3, best.prices)):
                self.exact(check_mean(PACK, COSTS, told), False)

    def test_greatest_by_chance(self):
        rng = generator(143)
        kinds = {Best: 0, Endless: 0}
        for at in range(120):
            plan = whole_plan(rng) if at % 3 else plan_of(rng.choice(WHOLE + ("in: s -> a\nback: a -> b\nturn: b -> a\nout: a -> e",)))
            costs = costs_for(plan, rng, rng.choice((0, 1, 5)))
            found = self.unchanged(greatest_mean, plan, costs, 2000)
            kinds[type(found)] += 1
            if isinstance(found, Best):
                self.assertTrue(is_best(plan, costs, found, -1))
                least = least_mean(plan, costs, 2000)
                self.assertLessEqual(Fraction(*least.cost), -Fraction(*found.cost))
            else:
                live = live_of(plan)
                ring = [Fraction(*one) for one in found.ring]
                self.assertEqual(len(ring), len(live))
                self.assertGreaterEqual(min(ring), 0)
                for place in plan.places:
                    self.exact(sum(one * change_at(plan, name, place) for name, one in zip(live, ring)) == 0, True)
                self.assertGreater(sum(one * dict(costs)[name] for name, one in zip(live, ring)), 0)
                takes = Best((0, 1), found.takes, None).takes
                self.assertEqual(len(takes), len(live))
        self.assertGreater(min(kinds.values()), 4)

    def test_rings(self):
        costs = (("back", 0), ("in", 2), ("out", 3), ("turn", 0), ("z", 9))
        self.exact(greatest_mean(RING, costs, 9).cost, (-5, 1))
        self.exact(least_mean(RING, costs, 9).cost, (5, 1))
        found = greatest_mean(RING, (("back", 1), ("in", 2), ("out", 3), ("turn", 0), ("z", 0)), 9)
        self.assertIs(type(found), Endless)
        self.exact(found.ring[0] == found.ring[3] and found.ring[0][0] > 0, True)
        self.exact(least_mean(RING, (("back", 1), ("in", 2), ("out", 3), ("turn", 0), ("z", 0)), 9).cost, (5, 1))

    def test_least_cost_tells_the_same(self):
        rows = ((1, 0, -1), (-1, 1, 0), (-7, 7, 0))
        self.assertTrue(least_mean(PACK, COSTS, 9) == least_cost(rows, (0, 1, -1), (2, 3, 7)))
        self.assertTrue(greatest_mean(PACK, COSTS, 9) == least_cost(rows, (0, 1, -1), (-2, -3, -7)))


class Rounds(Case):
    def test_shapes(self):
        rng = generator(144)
        for text in WHOLE:
            plan = plan_of(text)
            for _ in range(6):
                costs = costs_for(plan, rng)
                best = least_mean(plan, costs, 2000)
                found = self.unchanged(rounds_of, plan, costs, 2000)
                self.tuples_within(found)
                self.exact(len(found), 4)
                self.assertTrue(are_rounds(plan, best, found))
                self.exact(check_rounds(plan, costs, best, found), True)

    def test_by_chance(self):
        rng = generator(145)
        bottoms = {}
        for at in range(60):
            plan = THIRDS if at % 4 == 0 else whole_plan(rng)
            costs = costs_for(plan, rng)
            best = least_mean(plan, costs, 2000)
            found = rounds_of(plan, costs, 2000)
            self.exact(check_rounds(plan, costs, best, found), True)
            if found[0] < 3000:
                self.assertTrue(are_rounds(plan, best, found))
            bottoms[found[1]] = True
        self.exact([bottom for bottom in (1, 2, 3) if bottom not in bottoms], [])

    def test_a_bottom_of_six(self):
        costs = (("a", 0), ("c", 4), ("d", 0), ("g", 6), ("h", 9))
        halves = Best((2, 1), ((1, 1), (1, 4), (1, 2), (1, 6), (0, 1)), ((0, 1), (2, 1), (0, 1), (0, 1)))
        self.exact(check_mean(SIXTH, costs, halves), True)
        # Twelve times: 12 papers at s, 12 at b and 6 at f are taken in all.
        right = (30, 12, (("a", 18), ("d", 6)), (("a", 12), ("c", 12), ("g", 2)))
        self.assertTrue(are_rounds(SIXTH, halves, right))
        for bottom in (12, 24, 6, 4, 1, 13):
            self.exact(check_rounds(SIXTH, costs, halves, (30, bottom) + right[2:]), bottom == 12)
        twice = (60, 24, (("a", 36), ("d", 12)), (("a", 24), ("c", 24), ("g", 4)))
        for bottom in (12, 24, 6, 36, 23):
            self.exact(check_rounds(SIXTH, costs, halves, (60, bottom) + twice[2:]), bottom in (12, 24))
        # A paper less at s, at b or at f.
        for wrong in ((29, 12, (("a", 18), ("d", 6)), (("a", 11), ("c", 11), ("g", 2), ("h", 1))),
                      (30, 12, (("a", 19), ("d", 6)), (("a", 11), ("c", 12), ("g", 2))),
                      (30, 12, (("a", 18), ("d", 9)), (("a", 12), ("c", 10), ("g", 3), ("h", 1))),
                      (30, 12, (("a", 18), ("d", 3)), (("a", 12), ("c", 13), ("g", 1), ("h", 1)))):
            self.exact(check_rounds(SIXTH, costs, halves, wrong), False)
            self.assertFalse(are_rounds(SIXTH, halves, wrong))
            self.exact(behind_run(SIXTH, behind_run(SIXTH, {"s": wrong[0]}, wrong[2]), wrong[3]), {"e": wrong[0]})

    def test_by_hand(self):
        best = Best((3, 1), ((1, 1), (0, 1), (1, 7)), ((2, 1), (3, 1), (0, 1)))
        right = (14, 7, (("go", 7),), (("pack", 1), ("go", 7), ("home", 7)))
        self.exact(check_rounds(PACK, COSTS, best, right), True)
        self.exact(check_rounds(PACK, COSTS, best, (14, 14) + right[2:]), False)
        self.exact(check_rounds(PACK, COSTS, best, (28, 14, (("go", 14),), (("pack", 2), ("go", 14), ("home", 14)))), True)
        for at, wrongs in ((0, (13, 15, 0, -14, True, None, (14, 1), "14")), (1, (1, 6, 8, 0, -7, True, None, (7, 1))),
                           (2, ((("go", 6),), (("go", 8),), (), [("go", 7)], (["go", 7],), (("go", True),), (("nn", 7),), None,
                                ("go",) * 7, (("go", 0),), (("go", 15),))),
                           (3, ((("pack", 1), ("go", 7), ("home", 6)), (("pack", 1), ("home", 7), ("go", 7)), (), None, ("pack",),
                                [("pack", 1), ("go", 7), ("home", 7)], (("pack", 2), ("go", 7)), (("home", 7), ("go", 7))))):
            for wrong in wrongs:
                value = right[:at] + (wrong,) + right[at + 1:]
                self.exact(check_rounds(PACK, COSTS, best, value), False)
        # One run may do what the other one does not.
        self.exact(check_rounds(PACK, COSTS, best, (14, 7, (("go", 14), ("pack", 1)), (("pack", 1),))), False)
        self.exact(check_rounds(PACK, COSTS, best, (14, 7, (("go", 5), ("go", 2)), (("home", 7), ("go", 7), ("pack", 1)))), True)
        for value in ODD + (right[:3], right + (1,), list(right), right[::-1], nested(80), best, (right,)):
            self.exact(check_rounds(PACK, COSTS, best, value), False)

    def test_great_numbers(self):
        best = least_mean(PACK, COSTS, 9)
        many = 7 * 10 ** 30
        value = (2 * many, many, (("go", many),), (("pack", many // 7), ("go", many), ("home", many)))
        self.exact(check_rounds(PACK, COSTS, best, value), True)
        self.exact(check_rounds(PACK, COSTS, best, (2 * many, many + 7) + value[2:]), False)

    def test_no_papers_of_no_step(self):
        # A live step that the takes do not take asks for nothing.
        plan = plan_of("in: s -> a\nout: a -> e\nquick: s -> e")
        best = Best((1, 1), ((0, 1), (0, 1), (1, 1)), ((0, 1), (1, 1), (0, 1)))
        costs = (("in", 5), ("out", 5), ("quick", 1))
        self.exact(check_mean(plan, costs, best), True)
        self.exact(check_rounds(plan, costs, best, (1, 1, (), (("quick", 1),))), True)
        self.exact(check_rounds(plan, costs, best, (1, 2, (), (("quick", 1),))), False)

    def test_spare_cost(self):
        value = (14, 7, (("go", 7),), (("pack", 1), ("go", 7), ("home", 7)))
        self.exact(spare_cost(PACK, COSTS, value, 5), 14 + 7 + 14 + 21 + 21 * 5)
        self.exact(spare_cost(PACK, COSTS, value, 0), 56)
        self.exact(spare_cost(PACK, (("go", 0), ("home", 0), ("pack", 0)), value, 1), 21)
        self.exact(spare_cost(PACK, COSTS, (1, 1, (), ()), 5), 10)

    def test_so_many_cases_cost_no_more(self):
        rng = generator(146)
        for text in WHOLE:
            plan = plan_of(text)
            costs = costs_for(plan, rng)
            best = least_mean(plan, costs, 2000)
            one = cost_of(plan, 1, costs, 2000)[0]
            spare = spare_cost(plan, costs, rounds_of(plan, costs, 2000), one)
            for cases, cost in enumerate(cost_row(plan, costs, 300, 4)):
                self.assertLessEqual(cost, cases * Fraction(*best.cost) + spare)


class Costs(Case):
    def test_examples(self):
        self.exact((cost_row(PACK, COSTS, 300, 7), cost_of(PACK, 2, COSTS, 300)),
                   ((0, 5, 10, 15, 20, 25, 30, 21), (10, ("go", "go", "home", "home"))))

    def test_by_hand(self):
        rng = generator(147)
        for at in range(60):
            plan = whole_plan(rng) if at % 2 else plan_of(rng.choice(WHOLE + STUCK))
            costs, cases = costs_for(plan, rng, 3), rng.randint(0, 3)
            found = walk_by_hand(plan, live_of(plan), starts(plan, cases), 60)
            if found is None:
                continue
            expected = cheapest_by_hand(plan, live_of(plan), starts(plan, cases), ends(plan, cases), costs)
            self.exact(self.unchanged(cost_of, plan, cases, costs, len(found)), expected)
            if len(found) > 1:
                self.refused(Refused, {"word": "many"}, cost_of, plan, cases, costs, len(found) - 1)
                self.refused(Refused, {"word": "many"}, cost_row, plan, costs, len(found) - 1, cases)

    def test_rows_are_the_costs_of_each_number(self):
        rng = generator(148)
        for text in WHOLE + STUCK:
            plan = plan_of(text)
            costs = costs_for(plan, rng)
            row = self.unchanged(cost_row, plan, costs, 300, 4)
            found = [cost_of(plan, cases, costs, 300) for cases in range(5)]
            self.exact(row, tuple(None if one is None else one[0] for one in found))

    def test_none_where_there_is_none(self):
        stuck = plan_of("t: 2 s -> 2 e")
        self.exact(cost_row(stuck, (("t", 3),), 300, 5), (0, None, 3, None, 6, None))
        self.exact(cost_of(stuck, 3, (("t", 3),), 300), None)
        self.exact(cost_row(plan_of(""), (), 1, 2), (0, None, None))

    def test_edges(self):
        self.exact(cost_of(PACK, 0, COSTS, 1), (0, ()))
        self.exact(cost_row(PACK, COSTS, 1, 0), (0,))
        self.refused(Refused, {"word": "many"}, cost_row, PACK, COSTS, 1, 1)
        dead = plan_of("go: s -> e\nz: y -> e")
        self.exact(cost_of(dead, 2, (("go", 3), ("z", 0)), 9), (6, ("go", "go")))

    def test_refused(self):
        for text in GROWING[:1]:
            plan = plan_of(text)
            costs = tuple((name, 1) for name in names_of(plan))
            for most in (1, 300):
                self.refused(Refused, {"word": "weights"}, cost_of, plan, 0, costs, most)
                self.refused(Refused, {"word": "weights"}, cost_row, plan, costs, most, 0)
        # No kept weights, but a crew that raises none: it may walk.
        self.exact(cost_row(plan_of("t: 2 s -> e\nu: s -> e"), (("t", 0), ("u", 2)), 300, 3), (0, 2, 4, 6))

    def test_it_grows_by_no_more_than_one(self):
        rng = generator(149)
        for text in WHOLE:
            plan = plan_of(text)
            row = cost_row(plan, costs_for(plan, rng), 300, 5)
            for one in range(6):
                for other in range(6 - one):
                    self.assertLessEqual(row[one + other], row[one] + row[other])

    def test_greatest(self):
        plan = plan_of("go: s -> a\nhome: a -> e\nlate: z -> e\nlend: a, s -> e, z")
        costs = (("go", 999999), ("home", 1), ("late", 999998), ("lend", 3))
        for _ in range(10):
            row = cost_row(plan, costs, 300, 9)
            self.exact((len(row), row[:2]), (10, (0, 1000000)))
            self.assertTrue(is_best(GREAT, tuple((name, 7) for name in names_of(GREAT)),
                                    least_mean(GREAT, tuple((name, 7) for name in names_of(GREAT)), 2003)))


if __name__ == "__main__":
    unittest.main()
