"""[15] to [18]: rows."""

import itertools
import unittest

from caseshome.rows import (balances, bar_of, check_bar, check_sum, echelon, is_echelon, order_of, sum_of, transposed,
                            turned_echelon)
from tests.byhand import (form_by_hand, is_fraction_by_hand, is_sum_by_hand, made, rank_by_hand, worth_by_hand)
from tests.helpers import ODD, Case, generator, nested


def random_rows(rng, many=None, width=None, size=4):
    many, width = many or rng.randint(1, 4), rng.randint(0, 4) if width is None else width
    rows = [[rng.randint(-size, size) if rng.random() < 0.8 else 0 for _ in range(width)] for _ in range(many)]
    if many > 1 and rng.random() < 0.3:
        rows[-1] = [rng.randint(-2, 2) * number for number in rows[0]]
    return tuple(tuple(row) for row in rows)


def shown_echelon(rows):
    """Whether rows are in echelon form, read as [15] has it."""
    heads = []
    for row in rows:
        places = [place for place, number in enumerate(row) if number]
        if not places or row[places[0]] < 1 or (heads and places[0] <= heads[-1]):
            return False
        heads.append(places[0])
    return all(0 <= rows[j][heads[k]] < rows[k][heads[k]] for k in range(len(rows)) for j in range(k))


class Forms(Case):
    def test_examples(self):
        self.exact((echelon(((4, 6), (2, 8))), balances(((2, 4), (3, 6), (1, 2))), is_echelon(((2, 8), (0, 10))),
                    is_echelon(((2, 10), (0, 10))), transposed(((1, 2, 3),), 3)),
                   (((2, 8), (0, 10)), ((1, 0, -2), (0, 1, -3)), True, False, ((1,), (2,), (3,))))

    def test_no_rows_no_places_noughts(self):
        self.exact((echelon(()), echelon(((),)), echelon(((), ())), echelon(((0, 0), (0, 0)))), ((), (), (), ()))
        self.exact((turned_echelon(()), turned_echelon(((), ())), turned_echelon(((0,), (0,)))), ((), (), ()))
        self.exact((balances(()), balances(((), ())), balances(((0,), (0,))), balances(((5,),)), balances(((0,),))),
                   ((), ((1, 0), (0, 1)), ((1, 0), (0, 1)), (), ((1,),)))
        self.exact((is_echelon(()), is_echelon(((),)), is_echelon(((0, 0),)), is_echelon(((1, 2), (0, 0)))),
                   (True, False, False, False))
        self.exact((transposed((), 0), transposed((), 2), transposed(((), ()), 0), transposed(((1, 2), (3, 4)), 2)),
                   ((), ((), ()), (), ((1, 3), (2, 4))))

    def test_echelon(self):
        for rows, form in ((((-3,),), ((3,),)), (((4,), (6,)), ((2,),)), (((0, -2), (3, 5)), ((3, 1), (0, 2))),
                           (((1, 2), (2, 4)), ((1, 2),)), (((0, 0, 7),), ((0, 0, 7),)), (((2, 3), (2, 3)), ((2, 3),)),
                           (((1, -5), (0, 3)), ((1, 1), (0, 3))), (((6, 1), (4, 1)), ((2, 0), (0, 1)))):
            self.exact(self.unchanged(echelon, rows), form)

    def test_is_echelon(self):
        for rows, expected in ((((1,),), True), (((-1,),), False), (((1, 5),), True), (((1, 0), (0, 1)), True),
                               (((0, 1), (1, 0)), False), (((1, 2), (0, 2)), False), (((1, 1), (0, 2)), True),
                               (((1, -1), (0, 2)), False), (((1, 1), (0, -2)), False), (((1, 1), (1, 1)), False),
                               (((2, 7, 1), (0, 0, 2)), True), (((2, 7, 2), (0, 0, 2)), False),
                               (((1, 0, 2), (0, 1, 3), (0, 0, 3)), False), (((1, 0, 2), (0, 1, 2), (0, 0, 3)), True),
                               (((0, 1), (0, 1)), False), (((0, 5),), True), (((2, 0), (0, 10 ** 50)), True)):
            self.exact(self.unchanged(is_echelon, rows), expected)

    def test_forms_by_hand(self):
        rng = generator(21)
        for _ in range(400):
            rows = random_rows(rng)
            width = len(rows[0])
            form = self.unchanged(echelon, rows)
            self.exact(form, form_by_hand(rows))
            self.assertTrue(shown_echelon(form))
            self.exact((is_echelon(form), is_echelon(rows)), (True, shown_echelon(rows)))
            self.exact(echelon(form), form)
            turned = self.unchanged(turned_echelon, rows)
            self.tuples_within(turned)
            self.exact([len(row) for row in turned], [len(rows)] * len(form))
            self.exact(tuple(made(rows, row, width) for row in turned), form)
            self.exact(transposed(rows, width), tuple(tuple(row[k] for row in rows) for k in range(width)))

    def test_balances_by_hand(self):
        rng = generator(22)
        for _ in range(150):
            rows = random_rows(rng, size=3)
            width = len(rows[0])
            kept = self.unchanged(balances, rows)
            self.tuples_within(kept)
            self.assertTrue(shown_echelon(kept))
            self.exact(len(kept), len(rows) - rank_by_hand(rows))
            for numbers in kept:
                self.exact((len(numbers), made(rows, numbers, width)), (len(rows), (0,) * width))
            for numbers in itertools.product(range(-2, 3), repeat=len(rows)):
                if not any(made(rows, numbers, width)):
                    self.assertTrue(is_sum_by_hand(kept, numbers))

    def test_greatest(self):
        rng = generator(23)
        for _ in range(12):
            rows = random_rows(rng, 14, 13, 999)
            form = echelon(rows)
            self.assertTrue(shown_echelon(form))
            self.exact(tuple(made(rows, row, 13) for row in turned_echelon(rows)), form)
            self.assertTrue(all(is_sum_by_hand(form, row) for row in rows))
            kept = balances(rows)
            self.assertTrue(shown_echelon(kept))
            self.assertTrue(all(made(rows, numbers, 13) == (0,) * 13 for numbers in kept))
            self.exact(len(kept), 14 - len(form))
            self.exact((echelon(form), echelon(kept)), (form, kept))
            self.exact(echelon(transposed(form, 13)), form_by_hand(transposed(form, 13)))


class Sums(Case):
    def right_sum(self, rows, target, value):
        self.assertIs(type(value), tuple)
        self.assertTrue(all(type(number) is int for number in value))
        self.exact((len(value), made(rows, value, len(target))), (len(rows), target))
        self.exact(check_sum(rows, target, value), True)

    def right_bar(self, rows, target, value):
        self.assertIs(type(value), tuple)
        self.exact(len(value), len(target))
        self.assertTrue(all(is_fraction_by_hand(one) for one in value))
        for row in rows:
            self.exact(worth_by_hand(value, row).denominator, 1)
        self.assertGreater(worth_by_hand(value, target).denominator, 1)
        self.exact(check_bar(rows, target, value), True)

    def exactly_one(self, rows, target):
        one, two = self.unchanged(sum_of, rows, target), self.unchanged(bar_of, rows, target)
        self.assertEqual((one is None) + (two is None), 1)
        if two is None:
            self.right_sum(rows, target, one)
        else:
            self.right_bar(rows, target, two)
        return two is None

    def test_examples(self):
        rows = ((2, 0), (0, 3))
        self.exact((sum_of(rows, (4, -3)), bar_of(rows, (4, -3)), sum_of(rows, (1, 0)),
                    check_bar(rows, (1, 0), ((1, 2), (0, 1))), check_bar(rows, (1, 0), ((2, 4), (0, 1))),
                    order_of(rows, (1, 1)), order_of(((2, 0),), (1, 1))), ((2, -1), None, None, True, False, 6, None))

    def test_exactly_one(self):
        rng = generator(24)
        counts = [0, 0]
        for _ in range(600):
            rows = random_rows(rng)
            target = tuple(rng.randint(-4, 4) for _ in rows[0])
            if rng.random() < 0.4:
                target = made(rows, [rng.randint(-3, 3) for _ in rows], len(target))
            found = self.exactly_one(rows, target)
            self.exact(found, is_sum_by_hand(form_by_hand(rows), target))
            counts[found] += 1
        self.assertGreater(min(counts), 100)

    def test_no_places_and_noughts(self):
        self.assertTrue(self.exactly_one(((),), ()))
        self.assertTrue(self.exactly_one(((), ()), ()))
        self.assertTrue(self.exactly_one(((0, 0),), (0, 0)))
        self.assertFalse(self.exactly_one(((0, 0),), (0, 1)))
        self.assertFalse(self.exactly_one(((0,), (0,)), (-1,)))
        self.assertTrue(self.exactly_one(((1,),), (10 ** 19,)))
        self.assertFalse(self.exactly_one(((1, 1),), (10 ** 19, 10 ** 19 - 1)))

    def test_greatest(self):
        rng = generator(25)
        for count in range(12):
            rows = random_rows(rng, 14 if count % 3 else 9, 13, 999)
            target = tuple(rng.randint(-10 ** 20 + 1, 10 ** 20 - 1) for _ in range(13))
            self.exactly_one(rows, target)
            self.assertTrue(self.exactly_one(rows, made(rows, [rng.randint(-10 ** 15, 10 ** 15) for _ in rows], 13)))
            doubled = tuple(tuple(2 * number for number in row) for row in rows)
            self.assertFalse(self.exactly_one(doubled, tuple(number | 1 for number in target)))

    def test_check_sum(self):
        rows, target = ((2, 0), (0, 3), (2, 3)), (4, -3)
        for value in ((2, -1, 0), (1, -2, 1), (2 + 10 ** 50, -1 + 10 ** 50, -10 ** 50)):
            self.exact(check_sum(rows, target, value), True)
            self.exact(check_sum(value=value, target=target, rows=rows), True)
        for value in ((2, -1), (2, -1, 0, 0), [2, -1, 0], (2, -1, False), (2, -1, 1), (2, 1, 0), (True, -2, 1), (2, "-1", 0),
                      (2, -1, None), ((2, -1, 0),), ((2, 1), (-1, 1), (0, 1)), None, (), 2, "2"):
            self.exact(check_sum(rows, target, value), False)
        self.exact((check_sum(((),), (), (7,)), check_sum(((),), (), ()), check_sum(((0,),), (0,), (-7,))),
                   (True, False, True))
        for value in ODD + (nested(80),):
            self.exact((check_sum(rows, target, value), check_bar(rows, target, value)), (False, False))

    def test_check_bar(self):
        rows, target = ((2, 0), (0, 3)), (1, 2)
        big = 10 ** 100
        for value in (((1, 2), (0, 1)), ((0, 1), (1, 3)), ((1, 2), (1, 3)), ((-1, 2), (-5, 3)), ((2 * big + 1, 2), (big, 1))):
            self.exact(check_bar(rows, target, value), True)
            self.exact(check_bar(value=value, target=target, rows=rows), True)
        for value in (((0, 1), (0, 1)), ((1, 3), (0, 1)), ((1, 1), (0, 1)), ((2, 4), (0, 1)), ((1, 2), (0, 2)),
                      ((-1, -2), (0, 1)), ((1, 2), (0, 0)), ((1, 2), (1, 0)), ((1, 2), (0, -1)), ((1, 2),), ((1, 2), (0, 1), (0, 1)),
                      [(1, 2), (0, 1)], ([1, 2], (0, 1)), ((1, 2), [0, 1]), ((True, 2), (0, 1)), ((1, 2), (0, True)),
                      ((1, 2), (False, 1)), ((1, 2), 0), ((1, 2, 1), (0, 1)), ((1,), (0, 1)), (("1", 2), (0, 1)), None, (), 0):
            self.exact(check_bar(rows, target, value), False)
        self.exact((check_bar(((1,),), (1,), ((1, 2),)), check_bar(((0,),), (1,), ((1, 7),)), check_bar(((),), (), ())),
                   (False, True, False))

    def test_one_changed_in_what_is_told(self):
        rng = generator(26)
        for _ in range(100):
            rows = random_rows(rng, None, 3)
            target = tuple(rng.randint(-4, 4) for _ in range(3))
            value = sum_of(rows, target)
            if value is None:
                value = bar_of(rows, target)
                for at in range(3):
                    other = value[:at] + ((value[at][0] * 2, value[at][1] * 2),) + value[at + 1:]
                    self.exact(check_bar(rows, target, other), False)
                self.exact(check_bar(rows, target, list(value)), False)
            else:
                for at in range(len(rows)):
                    other = value[:at] + (value[at] + 1,) + value[at + 1:]
                    self.exact(check_sum(rows, target, other), not any(rows[at]))
                self.exact(check_sum(rows, target, list(value)), False)


class Orders(Case):
    def test_orders(self):
        for rows, target, expected in ((((2, 0), (0, 3)), (0, 0), 1), (((2, 0), (0, 3)), (1, 0), 2), (((2, 0), (0, 3)), (0, 1), 3),
                                       (((2, 0), (0, 3)), (2, -3), 1), (((0, 0),), (0, 0), 1), (((0, 0),), (0, 1), None),
                                       (((),), (), 1), (((4, 2),), (2, 1), 2), (((4, 2),), (2, 2), None), (((6,), (4,)), (1,), 2),
                                       (((999,),), (10 ** 19,), 999), (((0, 5), (7, 0)), (1, 1), 35),
                                       (((2, 1), (0, 2)), (1, 0), 4)):
            self.exact(self.unchanged(order_of, rows, target), expected)

    def test_orders_by_hand(self):
        rng = generator(27)
        for _ in range(400):
            rows = random_rows(rng)
            target = tuple(rng.randint(-4, 4) for _ in rows[0])
            form = form_by_hand(rows)
            number = order_of(rows, target)
            if number is None:
                self.assertEqual(rank_by_hand(rows + (target,)), rank_by_hand(rows) + 1)
                continue
            self.assertIs(type(number), int)
            self.assertTrue(is_sum_by_hand(form, [number * one for one in target]))
            for fewer in range(1, min(number, 200)):
                self.assertFalse(is_sum_by_hand(form, [fewer * one for one in target]))

    def test_greatest(self):
        rng = generator(28)
        for _ in range(10):
            rows = random_rows(rng, 13, 13, 999)
            target = tuple(rng.randint(-10 ** 20 + 1, 10 ** 20 - 1) for _ in range(13))
            number = order_of(rows, target)
            if number is not None:
                form = echelon(rows)
                self.assertTrue(is_sum_by_hand(form, [number * one for one in target]))
                for prime in (2, 3, 5, 7, 11, 13):
                    if number % prime == 0:
                        self.assertFalse(is_sum_by_hand(form, [number // prime * one for one in target]))


if __name__ == "__main__":
    unittest.main()
