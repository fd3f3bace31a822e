"""[22]: fractions."""

import unittest
from fractions import Fraction

from caseshome.fractions import (added, bottom_of, compared, divided, floor_of, fraction, is_whole, less, multiplied,
                                 worth)
from tests.byhand import pair
from tests.helpers import Case, generator

HUGE = (10 ** 150 + 1, 10 ** 120 + 7)


class Fractions(Case):
    def test_examples(self):
        one = fraction(6, -4)
        self.exact([one, added((1, 2), (1, 3)), floor_of(one), bottom_of([(1, 4), (5, 6)]), compared(one, (-1, 1)),
                    worth(((1, 2), (1, 3)), (3, 6))], [(-3, 2), (5, 6), -2, 12, -1, (7, 2)])

    def test_fraction(self):
        for top, bottom, expected in ((0, 5, (0, 1)), (0, -5, (0, 1)), (0, 1, (0, 1)), (6, 4, (3, 2)), (-6, 4, (-3, 2)),
                                      (6, -4, (-3, 2)), (-6, -4, (3, 2)), (7, 7, (1, 1)), (7, -7, (-1, 1)), (5, 1, (5, 1)),
                                      (5, -1, (-5, 1)), (1, 3, (1, 3)), (10 ** 200, 10 ** 199, (10, 1))):
            self.exact(fraction(top, bottom), expected)
            self.exact(fraction(bottom=bottom, top=top), expected)

    def test_wholes(self):
        self.exact([is_whole(one) for one in ((0, 1), (-3, 1), (1, 2), (-7, 3))], [True, True, False, False])
        self.exact([floor_of(one) for one in ((0, 1), (-3, 1), (1, 2), (-1, 2), (7, 3), (-7, 3), (6, 1))],
                   [0, -3, 0, -1, 2, -3, 6])

    def test_bottom_of(self):
        for sort in (list, tuple):
            self.exact(self.unchanged(bottom_of, sort([(1, 4), (-5, 6), (3, 1)])), 12)
            self.exact((bottom_of(sort([])), bottom_of(sort([(0, 1)])), bottom_of(sort([(1, 7), (2, 7)]))), (1, 1, 7))

    def test_worth(self):
        for sort in (list, tuple):
            self.exact(self.unchanged(worth, sort([(1, 2), (-1, 3)]), sort([3, 6])), (-1, 2))
            self.exact((worth(sort([]), sort([])), worth(sort([(1, 2), (1, 3)]), sort([2, -3]))), ((0, 1), (0, 1)))
        self.exact(worth(((1, 2),), [3]), (3, 2))

    def test_as_python_has_it(self):
        rng = generator(20)
        for size in [3, 20, 10 ** 6] * 60 + [10 ** 110] * 20:
            one, two = [Fraction(rng.randint(-size, size), rng.randint(1, size)) for _ in range(2)]
            here, there = pair(one), pair(two)
            self.exact(added(here, there), pair(one + two))
            self.exact(less(here, there), pair(one - two))
            self.exact(multiplied(here, there), pair(one * two))
            if two:
                self.exact(divided(here, there), pair(one / two))
            self.exact(compared(here, there), (one > two) - (one < two))
            self.exact((compared(here, here), less(here, here), added(here, pair(-one))), (0, (0, 1), (0, 1)))
            self.exact((is_whole(here), floor_of(here)), (one.denominator == 1, one.numerator // one.denominator))
            numbers = [rng.randint(-size, size) for _ in range(3)]
            parts = [Fraction(rng.randint(-size, size), rng.randint(1, size)) for _ in range(3)]
            self.exact(worth([pair(part) for part in parts], numbers),
                       pair(sum(part * number for part, number in zip(parts, numbers))))
            self.assertTrue(all((part * bottom_of([pair(part) for part in parts])).denominator == 1 for part in parts))

    def test_a_hundred_figures(self):
        one = Fraction(*HUGE)
        self.exact((added(HUGE, HUGE), divided(HUGE, HUGE), multiplied(HUGE, (HUGE[1], HUGE[0]))),
                   (pair(2 * one), (1, 1), (1, 1)))
        self.exact(compared(HUGE, (HUGE[0] + 1, HUGE[1])), -1)
        self.exact(divided((1, 1), (-HUGE[0], HUGE[1])), pair(-1 / one))
        self.exact(bottom_of([HUGE, (1, HUGE[1] * 3)]), HUGE[1] * 3)


if __name__ == "__main__":
    unittest.main()
