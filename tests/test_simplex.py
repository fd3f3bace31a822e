"""[23] and [24]: least costs."""

import itertools
import unittest
from fractions import Fraction
from math import gcd

from caseshome.simplex import Best, Endless, Never, check_cost, least_cost
from tests.byhand import is_fraction_by_hand, rank_by_hand, worth_by_hand
from tests.helpers import ODD, Case, generator, nested


def parts(value):
    if isinstance(value, Best):
        return ("best", value.cost, value.takes, value.prices)
    if isinstance(value, Never):
        return ("never", value.prices)
    return ("endless", value.takes, value.ring)


def made_by_hand(rows, takes, width):
    return [worth_by_hand(takes, [row[k] for row in rows]) for k in range(width)]


def has_takes(rows, target):
    """Whether some takes make the target, by trying all rows that may bear it alone."""
    rank = rank_by_hand(rows) if rows and target else 0
    if not any(target):
        return True
    for many in range(1, rank + 1):
        for chosen in itertools.combinations(rows, many):
            if rank_by_hand(chosen) == many and rank_by_hand(chosen + (target,)) == many:
                if min(solved(chosen, target)) >= 0:
                    return True
    return False


def solved(rows, target):
    """The fractions of rows without a balance that make a target."""
    lines = [[Fraction(row[k]) for row in rows] + [Fraction(target[k])] for k in range(len(target))]
    for place in range(len(rows)):
        at = next(k for k in range(place, len(lines)) if lines[k][place])
        lines[place], lines[at] = lines[at], lines[place]
        lines[place] = [one / lines[place][place] for one in lines[place]]
        for k, line in enumerate(lines):
            if k != place and line[place]:
                lines[k] = [one - line[place] * two for one, two in zip(line, lines[place])]
    return [lines[k][-1] for k in range(len(rows))]


class Costs(Case):
    def right(self, rows, target, costs):
        value = self.unchanged(least_cost, rows, target, costs)
        self.tuples_within(parts(value)[1:])
        if isinstance(value, Best):
            self.are_takes(rows, target, value.takes)
            self.assertTrue(is_fraction_by_hand(value.cost))
            self.assertEqual(worth_by_hand(value.takes, costs), Fraction(*value.cost))
            self.are_prices(rows, target, costs, value.prices)
            self.assertEqual(worth_by_hand(value.prices, target), Fraction(*value.cost))
        elif isinstance(value, Never):
            self.are_prices(rows, target, (0,) * len(rows), value.prices)
            self.assertGreater(worth_by_hand(value.prices, target), 0)
        else:
            self.assertIsInstance(value, Endless)
            self.are_takes(rows, target, value.takes)
            self.are_takes(rows, (0,) * len(target), value.ring)
            self.assertLess(worth_by_hand(value.ring, costs), 0)
        self.exact(check_cost(rows, target, costs, value), True)
        return value

    def are_takes(self, rows, target, takes):
        self.exact(len(takes), len(rows))
        self.assertTrue(all(is_fraction_by_hand(one) and one[0] >= 0 for one in takes))
        self.assertEqual(made_by_hand(rows, takes, len(target)), list(target))

    def are_prices(self, rows, target, costs, prices):
        self.exact(len(prices), len(target))
        self.assertTrue(all(is_fraction_by_hand(one) for one in prices))
        for row, cost in zip(rows, costs):
            self.assertLessEqual(worth_by_hand(prices, row), cost)

    def test_examples(self):
        best = least_cost(((7,), (1,)), (1,), (1, 1))
        self.exact([best.cost, best.takes, best.prices], [(1, 7), ((1, 7), (0, 1)), ((1, 7),)])
        never, endless = Never(((-1, 1),)), Endless(((0, 1), (0, 1)), ((1, 1), (1, 1)))
        self.exact([check_cost(((2,),), (-1,), (0,), never), check_cost(((1,), (-1,)), (0,), (1, -2), endless),
                    check_cost(((1,), (-1,)), (0,), (1, -1), endless)], [True, True, False])

    def test_each_kind(self):
        for rows, target, costs, kind in ((((1,),), (1,), (5,), Best), (((1,),), (-1,), (5,), Never), (((1,),), (0,), (-5,), Best),
                                          (((0,),), (0,), (-1,), Endless), (((0,),), (1,), (-1,), Never),
                                          (((1, 0), (-1, 0), (0, 1)), (0, 2), (1, -2, 3), Endless),
                                          (((1, 0), (-1, 0), (0, 1)), (0, 2), (2, -2, 3), Best),
                                          (((1, 0), (-1, 0), (0, 1)), (0, -2), (1, -2, 3), Never),
                                          (((1, 1), (2, 2)), (3, 3), (1, 1), Best), (((1, 1), (2, 2)), (3, 4), (1, 1), Never),
                                          (((1, 1), (1, 1)), (0, 0), (-1, -1), Best), (((), ()), (), (1, 0), Best),
                                          (((), ()), (), (1, -1), Endless), (((), ()), (), (0, 0), Best)):
            self.assertIs(type(self.right(rows, target, costs)), kind)

    def test_costs(self):
        for rows, target, costs, cost in ((((7,), (1,)), (3,), (1, 1), (3, 7)), (((2,), (3,)), (1,), (1, 2), (1, 2)),
                                          (((1, 0), (0, 1), (1, 1)), (2, 3), (4, 4, 5), (14, 1)),
                                          (((1, 0), (0, 1), (1, 1)), (2, 3), (1, 1, 5), (5, 1)),
                                          (((1,), (1,)), (4,), (-3, 2), (-12, 1)), (((-2, 1),), (-8, 4), (0,), (0, 1)),
                                          (((), ()), (), (1, 0), (0, 1)), (((3, 6),), (1, 2), (-1,), (-1, 3))):
            self.exact(self.right(rows, target, costs).cost, cost)

    def test_no_rows(self):
        value = self.right((), (), ())
        self.exact(parts(value), ("best", (0, 1), (), ()))

    def test_some_of_each(self):
        rng = generator(40)
        counts = {Best: 0, Never: 0, Endless: 0}
        for _ in range(700):
            many, width = rng.randint(1, 6), rng.randint(1, 4)
            rows = tuple(tuple(rng.randint(-3, 3) for _ in range(width)) for _ in range(many))
            if rng.random() < 0.3:
                rows = tuple(row[:-1] + (row[0],) for row in rows)
            takes = [rng.randint(0, 3) for _ in rows]
            target = tuple(sum(take * row[k] for take, row in zip(takes, rows)) for k in range(width))
            if rng.random() < 0.3:
                target = tuple(rng.randint(-5, 5) for _ in range(width))
            costs = tuple(rng.randint(-2 if rng.random() < 0.5 else 0, 5) for _ in rows)
            value = self.right(rows, target, costs)
            counts[type(value)] += 1
            self.exact(isinstance(value, Never), not has_takes(rows, target))
        self.assertGreater(min(counts.values()), 20)

    def test_many_ties(self):
        rng = generator(41)
        for _ in range(100):
            rows = tuple(tuple(rng.randint(-1, 1) for _ in range(8)) for _ in range(12))
            self.right(rows, (0,) * 8, tuple(rng.randint(-1, 2) for _ in rows))
            self.right(rows, rows[0], tuple(rng.randint(-1, 2) for _ in rows))

    def test_known_ring_of_ties(self):
        # Rows for which a careless choice of columns goes round for ever.
        rows = ((1, 0, 0), (0, 1, 0), (0, 0, 1), (1, 2, 0), (-32, -24, 0), (-4, -1, 1), (36, 6, 0))
        self.exact(self.right(rows, (0, 0, 1), (0, 0, 0, -3, 80, -2, 24)).cost[0] <= 0, True)

    def test_greatest(self):
        rng = generator(42)
        for count in range(24):
            rows = tuple(tuple(rng.randint(-999, 999) for _ in range(12)) for _ in range(14))
            takes = [rng.randint(0, 60) for _ in rows]
            target = tuple(sum(take * row[k] for take, row in zip(takes, rows)) for k in range(12))
            if count % 4 == 0:
                target = tuple(rng.randint(-999999, 999999) for _ in range(12))
            costs = tuple(rng.randint(-999999 if count % 3 == 0 else 0, 999999) for _ in rows)
            self.right(rows, target, costs)
        rows = tuple(tuple(rng.randint(-999, 999) for _ in range(2)) for _ in range(14))
        for _ in range(20):
            self.right(rows, (rng.randint(-999999, 999999), rng.randint(-999999, 999999)), (999999,) * 14)


class Checked(Case):
    def test_best(self):
        rows, target, costs = ((1, 0), (0, 1), (1, 1)), (2, 3), (4, 4, 5)
        takes, prices = ((0, 1), (1, 1), (2, 1)), ((1, 1), (4, 1))
        self.exact(check_cost(rows, target, costs, Best((14, 1), takes, prices)), True)
        self.exact(check_cost(value=Best((14, 1), takes, prices), costs=costs, target=target, rows=rows), True)
        for value in (Best((13, 1), takes, prices), Best((28, 2), takes, prices), Best(14, takes, prices),
                      Best([14, 1], takes, prices), Best(None, takes, prices), Best((15, 1), takes, prices),
                      Best((14, True), takes, prices), Best((14, 1), list(takes), prices), Best((14, 1), takes, list(prices)),
                      Best((14, 1), takes[:2], prices), Best((14, 1), takes + ((0, 1),), prices),
                      Best((14, 1), takes, prices[:1]), Best((14, 1), takes, prices + ((0, 1),)),
                      Best((14, 1), ((0, 1), (1, 1), (3, 1)), prices), Best((14, 1), ((0, 1), (True, 1), (2, 1)), prices),
                      Best((14, 1), ((0, 2), (1, 1), (2, 1)), prices), Best((14, 1), ((0, 1), (2, 2), (2, 1)), prices),
                      Best((20, 1), ((2, 1), (3, 1), (0, 1)), prices), Best((20, 1), ((2, 1), (3, 1), (0, 1)), ((4, 1), (4, 1))),
                      Best((14, 1), takes, ((4, 1), (2, 1))), Best((14, 1), takes, ((-1, 2), (5, 1))),
                      Best((14, 1), takes, ((1, 1), (3, 1))), Best((14, 1), takes, ((1, 1), 4)), Best((1, 0), takes, prices), Best((14, 1), takes, ((1, 0), (4, 1))),
                      Best((13, 1), ((-1, 1), (0, 1), (3, 1)), prices), Best((11, 1), ((-1, 1), (0, 1), (3, 1)), prices),
                      Best((14, 1), takes, None), Best(takes, (14, 1), prices)):
            self.exact(check_cost(rows, target, costs, value), False)

    def test_best_with_any_prices_of_that_worth(self):
        rows, target, costs = ((1, 0), (0, 1), (1, 1)), (2, 2), (4, 4, 5)
        for prices in (((1, 1), (4, 1)), ((4, 1), (1, 1)), ((5, 2), (5, 2))):
            self.exact(check_cost(rows, target, costs, Best((10, 1), ((0, 1), (0, 1), (2, 1)), prices)), True)
        self.exact(check_cost(rows, target, costs, Best((10, 1), ((0, 1), (0, 1), (2, 1)), ((0, 1), (5, 1)))), False)

    def test_a_hundred_figures(self):
        rows, target, costs = ((1,), (1,)), (1,), (3, 3)
        top, bottom = 10 ** 119 + 1, 10 ** 120 + 7
        takes = ((top, bottom), (bottom - top, bottom))
        self.assertEqual(gcd(top, bottom), 1)
        self.exact(check_cost(rows, target, costs, Best((3, 1), takes, ((3, 1),))), True)
        for value in (Best((3, 1), ((top + 1, bottom), takes[1]), ((3, 1),)), Best((3, 1), takes, ((top, bottom),)),
                      Best((top, bottom), takes, ((3, 1),)), Best((3, 1), ((3 * top, 3 * bottom), takes[1]), ((3, 1),))):
            self.exact(check_cost(rows, target, costs, value), False)
        self.exact([check_cost(((-1,),), (1,), (0,), Never((one,))) for one in (takes[0], (-top, bottom), (0, 1))],
                   [True, False, False])
        ring = (takes[0], takes[0])
        self.exact([check_cost(((1,), (-1,)), (0,), cost, Endless(ring, ring)) for cost in ((1, -2), (1, -1), (2, -1))],
                   [True, False, False])

    def test_never(self):
        rows, target, costs = ((1, 0), (0, 1)), (-2, 3), (0, 0)
        for prices in (((-1, 1), (0, 1)), ((-2, 1), (-1, 1)), ((-5, 3), (0, 1))):
            self.exact(check_cost(rows, target, costs, Never(prices)), True)
            self.exact(check_cost(rows, target, (-9, 9), Never(prices)), True)
        for prices in (((1, 1), (0, 1)), ((-1, 1), (1, 1)), ((-3, 1), (-2, 1)), ((0, 1), (0, 1)), ((-2, 2), (0, 1)),
                       ((-1, 1),), ((-1, 1), (0, 1), (0, 1)), [(-1, 1), (0, 1)], ([-1, 1], (0, 1)), ((-1, 1), (False, 1)),
                       ((-1, True), (0, 1)), (-1, 0), None, (), "ab"):
            self.exact(check_cost(rows, target, costs, Never(prices)), False)
        self.exact(check_cost(rows, (2, 3), costs, Never(((-1, 1), (0, 1)))), False)
        self.exact(check_cost((), (5,), (), Never(((1, 3),))), True)

    def test_endless(self):
        rows, target, costs = ((1, 0), (-1, 0), (0, 1)), (1, 2), (1, -2, 3)
        takes, ring = ((1, 1), (0, 1), (2, 1)), ((1, 1), (1, 1), (0, 1))
        for value in (Endless(takes, ring), Endless(((3, 2), (1, 2), (2, 1)), ((5, 3), (5, 3), (0, 1)))):
            self.exact(check_cost(rows, target, costs, value), True)
        for value in (Endless(takes, takes), Endless(ring, ring), Endless(takes, ((0, 1), (0, 1), (0, 1))),
                      Endless(takes, ((1, 1), (2, 1), (0, 1))), Endless(takes, ((-1, 1), (-1, 1), (0, 1))),
                      Endless(((1, 1), (0, 1), (1, 1)), ring), Endless(((0, 1), (-1, 1), (2, 1)), ring),
                      Endless(list(takes), ring), Endless(takes, list(ring)), Endless(takes[:2], ring),
                      Endless(takes, ring[:2]), Endless(takes, ((1, 1), (1, 1), 0)), Endless(takes, ((1, 1), (1, 1), (1, 0))), Endless(((1, 1), (0, 2), (2, 1)), ring),
                      Endless(takes, ((True, 1), (1, 1), (0, 1))), Endless(None, ring), Endless(takes, None)):
            self.exact(check_cost(rows, target, costs, value), False)
        self.exact((check_cost(rows, target, (1, -1, 3), Endless(takes, ring)),
                    check_cost(rows, target, (2, -1, 3), Endless(takes, ring))), (False, False))

    def test_the_same_with_one_thing_changed(self):
        rng = generator(43)
        for _ in range(150):
            rows = tuple(tuple(rng.randint(-3, 3) for _ in range(3)) for _ in range(5))
            target, costs = rows[1], tuple(rng.randint(-1, 5) for _ in rows)
            value = least_cost(rows, target, costs)
            for other in (parts(value)[1:], value.takes, "best", None):
                self.exact(check_cost(rows, target, costs, other), False)
            if isinstance(value, Best):
                top, bottom = value.cost
                for other in (Best((top + bottom, bottom), value.takes, value.prices), Never(value.prices),
                              Endless(value.takes, value.takes), Best(value.cost, value.takes, value.prices[1:]),
                              Best((2 * top, 2 * bottom), value.takes, value.prices)):
                    self.exact(check_cost(rows, target, costs, other), False)

    def test_any_values(self):
        for value in ODD + (nested(80),):
            self.exact(check_cost(((1,),), (1,), (1,), value), False)
            for other in (Best(value, value, value), Never(value), Endless(value, value), Best((1, 1), ((1, 1),), value),
                          Best((1, 1), value, ((1, 1),)), Endless(((1, 1),), value)):
                self.exact(check_cost(((1,),), (1,), (1,), other), False)


class Kept(Case):
    def test_arguments_are_kept_as_they_are(self):
        for kind, names in ((Best, ("cost", "takes", "prices")), (Never, ("prices",)), (Endless, ("takes", "ring"))):
            values = [[k] for k in range(len(names))]
            for value in (kind(*values), kind(**dict(zip(names, values)))):
                for name, kept in zip(names, values):
                    self.assertIs(getattr(value, name), kept)
                    kept.append("more")
                    self.exact(getattr(value, name)[-1], "more")

    def test_equal(self):
        for one, two in ((Best((1, 1), (), ((0, 1),)), Best((1, 1), (), ((0, 1),))), (Never(()), Never(())),
                         (Endless((1,), (2,)), Endless((1,), (2,)))):
            self.assertTrue(one == two)
            self.assertFalse(one != two)

    def test_unlike(self):
        values = (Best(1, 2, 3), Best(0, 2, 3), Best(1, 0, 3), Best(1, 2, 0), Never(1), Never(2), Never(3), Endless(1, 2),
                  Endless(0, 2), Endless(1, 0), Endless(2, 3), Never((1, 2)), (1, 2, 3), (1, 2), 1, None, "best", ((1,),))
        for at, one in enumerate(values):
            for k, two in enumerate(values):
                if isinstance(one, (Best, Never, Endless)) or isinstance(two, (Best, Never, Endless)):
                    self.assertIs(one == two, at == k)
                    self.assertIs(one != two, at != k)


if __name__ == "__main__":
    unittest.main()
