"""[5] and [6]: heaps and changes."""

import unittest

from caseshome.errors import InvalidHeap
from caseshome.heaps import (amount, change_of, change_times, changed, changes_joined, common, gap, halves, heap_of,
                             joined, need_change, need_heap, over, papers_in, taken_out, times, within)
from caseshome.plans import Plan
from tests.helpers import LETTERS, ODD, Case, generator, nested

MANY = 10 ** 12
PLACES = tuple("placeab" + letter for letter in LETTERS[:12])
GREAT = tuple((place, MANY) for place in PLACES)

NO_TUPLES = (None, True, 0, 1, "", "a", [], [("a", 1)], Plan(("a", "b"), (), "a", "b"))
NO_NAMES = ("", "A", "a1", "a b", "ab ", "abcdefghi", "-", "\u00e4", "a\n", 1, None, True, (), ("a",), ["a"])
NO_PAIRS = (None, True, 1, "a", "ab", (), ("a",), ("a", 1, 1), ["a", 1], [], (1, "a"), ((), ()))


def random_pairs(rng, low, high, many=6):
    return [(rng.choice("abcd"), rng.randint(low, high)) for _ in range(rng.randint(0, many))]


def as_dict(pairs):
    return dict(pairs)


def of_dict(numbers):
    return tuple(sorted((place, number) for place, number in numbers.items() if number))


class Judged(Case):
    """need_heap and need_change."""

    def wrong(self, value, at, functions=(need_heap, need_change)):
        for function in functions:
            self.refused(InvalidHeap, {"at": at}, function, value)
            self.refused(InvalidHeap, {"at": at}, function, value=value)

    def test_heaps(self):
        for value in ((), (("a", 1),), (("a", 1), ("b", 2)), (("abcdefgh", 1),), (("a", 3), ("aa", 1), ("b", 2)), GREAT,
                      (("a", 10 ** 3999),), (("a", 1), ("zzzzzzzz", 1)), tuple((letter, 1) for letter in LETTERS)):
            self.assertIsNone(need_heap(value))
            self.assertIsNone(need_change(value))

    def test_changes(self):
        for value in ((("a", -1),), (("a", -MANY), ("b", MANY)), (("a", -10 ** 3999),)):
            self.assertIsNone(need_change(value))
            self.wrong(value, 0, (need_heap,))

    def test_no_tuple(self):
        for value in NO_TUPLES:
            self.wrong(value, -1)

    def test_no_pair(self):
        for thing in NO_PAIRS:
            self.wrong((thing,), 0)
            self.wrong((("a", 1), thing), 1)
            self.wrong((("a", 1), thing, ("c", 1)), 1)

    def test_no_name(self):
        for name in NO_NAMES:
            self.wrong(((name, 1),), 0)
            self.wrong((("a", 1), ("b", 1), (name, 1)), 2)

    def test_no_number(self):
        for number in (0, True, False, None, "1", "", (1,), [1], ()):
            self.wrong((("a", number),), 0)
            self.wrong((("a", 1), ("b", number)), 1)
        for number in (-1, -MANY):
            self.wrong((("a", number),), 0, (need_heap,))
            self.wrong((("a", 1), ("b", number)), 1, (need_heap,))

    def test_not_greater_than_the_one_ahead(self):
        self.wrong((("a", 1), ("a", 1)), 1)
        self.wrong((("b", 1), ("a", 1)), 1)
        self.wrong((("a", 1), ("c", 2), ("b", 1)), 2)
        self.wrong((("aa", 1), ("a", 1)), 1)

    def test_the_first_wrong_thing(self):
        self.wrong((("a", 0), ("a", 0)), 0)
        self.wrong((("b", 1), ("a", 1), ("a", 0), None), 1)
        self.wrong((("a", 1), None, ("a", 1)), 1)
        self.wrong((None, ["a", 1]), 0)

    def test_any_value_is_right_or_wrong(self):
        for value in ODD + (nested(80), (nested(79),), (("a", nested(78)),)):
            for function in (need_heap, need_change):
                try:
                    self.assertIsNone(function(value))
                except InvalidHeap as error:
                    self.assertEqual(error.at, 0 if isinstance(value, tuple) else -1)


class Heaps(Case):
    def test_examples(self):
        start, change = (("b", 3), ("c", 1)), (("a", 2), ("b", -3))
        self.exact((changed(start, change), gap(start, changed(start, change)), changed(start, (("c", -2),))),
                   ((("a", 2), ("c", 1)), (("a", 2), ("b", -3)), None))
        self.refused(InvalidHeap, {"at": 2}, need_heap, (("a", 1), ("c", 2), ("b", 1)))

    def test_heap_of(self):
        self.exact(self.unchanged(heap_of, [("b", 1), ("a", 2), ("b", 3)]), (("a", 2), ("b", 4)))
        self.exact(self.unchanged(heap_of, (("b", 1), ("a", 2), ("b", 3))), (("a", 2), ("b", 4)))
        self.exact(heap_of([("a", 0), ("b", 0), ("b", 1)]), (("b", 1),))
        for empty in ([], (), [("a", 0)], (("a", 0), ("a", 0))):
            self.exact(heap_of(empty), ())
        self.exact(heap_of([(place, MANY) for place in PLACES[::-1]] * 2), times(GREAT, 2))

    def test_amount_and_papers_in(self):
        held = (("a", 2), ("c", 5))
        self.exact([amount(held, place) for place in ("a", "b", "c", "cc")], [2, 0, 5, 0])
        self.exact((amount((), "a"), papers_in(()), papers_in(held), papers_in(GREAT)), (0, 0, 7, 12 * MANY))

    def test_joined_and_times(self):
        one, two = (("a", 2), ("c", 5)), (("b", 1), ("c", 1))
        for sort in (list, tuple):
            self.exact(self.unchanged(joined, sort([one, two, one])), (("a", 4), ("b", 1), ("c", 11)))
            self.exact(joined(sort([])), ())
            self.exact(joined(sort([(), ()])), ())
            self.exact(joined(sort([(), one])), one)
        self.exact((times(one, 3), times(one, 1), times(one, 0), times((), 5)), ((("a", 6), ("c", 15)), one, (), ()))
        self.exact(times((("a", MANY),), MANY), (("a", MANY * MANY),))

    def test_within_and_taken_out(self):
        one, two = (("a", 2), ("c", 5)), (("a", 2), ("b", 1), ("c", 7))
        self.exact((within(one, two), within(two, one), within(one, one), within((), one), within(one, ()),
                    within((), ())), (True, False, True, True, False, True))
        self.exact(within((("a", 3),), two), False)
        self.exact(within((("d", 1),), two), False)
        self.exact((taken_out(two, one), taken_out(one, two), taken_out(one, one), taken_out(one, ()),
                    taken_out((), one), taken_out((), ())), ((("b", 1), ("c", 2)), None, (), one, None, ()))

    def test_common_and_over(self):
        one, two = (("a", 2), ("c", 5), ("d", 1)), (("a", 3), ("b", 1), ("c", 4))
        self.exact((common(one, two), over(one, two)), ((("a", 2), ("c", 4)), (("a", 3), ("b", 1), ("c", 5), ("d", 1))))
        self.exact((common(two, one), over(two, one)), (common(one, two), over(one, two)))
        self.exact((common(one, ()), common((), one), over(one, ()), over((), one)), ((), (), one, one))
        self.exact((common((), ()), over((), ())), ((), ()))
        self.exact(common((("a", 1),), (("b", 1),)), ())

    def test_heaps_by_dicts(self):
        rng = generator(1)
        for _ in range(400):
            one, two = heap_of(random_pairs(rng, 0, 3)), heap_of(random_pairs(rng, 0, 3))
            need_heap(one)
            first, second = as_dict(one), as_dict(two)
            places = sorted(set(first) | set(second))
            pairs = [(first.get(place, 0), second.get(place, 0)) for place in places]
            self.exact(joined((one, two)), of_dict({p: sum(pair) for p, pair in zip(places, pairs)}))
            self.exact(common(one, two), of_dict({p: min(pair) for p, pair in zip(places, pairs)}))
            self.exact(over(one, two), of_dict({p: max(pair) for p, pair in zip(places, pairs)}))
            inside = all(low <= high for low, high in pairs)
            self.exact(within(one, two), inside)
            left = of_dict({p: pair[1] - pair[0] for p, pair in zip(places, pairs)})
            self.exact(taken_out(two, one), left if inside else None)
            self.exact(gap(one, two), left)
            self.exact(times(one, 7), of_dict({p: 7 * number for p, number in first.items()}))


class Changes(Case):
    def test_change_of(self):
        for sort in (list, tuple):
            self.exact(self.unchanged(change_of, sort([("b", 1), ("a", -2), ("b", -3), ("c", 4), ("c", -4)])),
                       (("a", -2), ("b", -2)))
            self.exact(change_of(sort([])), ())
            self.exact(change_of(sort([("a", 0)])), ())

    def test_gap(self):
        one, two = (("a", 2), ("c", 5)), (("b", 1), ("c", 5))
        self.exact((gap(one, two), gap(two, one)), ((("a", -2), ("b", 1)), (("a", 2), ("b", -1))))
        self.exact((gap(one, one), gap((), one), gap(one, ()), gap((), ())), ((), one, (("a", -2), ("c", -5)), ()))

    def test_changes_joined_and_times(self):
        one, two = (("a", 2), ("c", -5)), (("b", 1), ("c", 5))
        for sort in (list, tuple):
            self.exact(self.unchanged(changes_joined, sort([one, two])), (("a", 2), ("b", 1)))
            self.exact(changes_joined(sort([])), ())
        self.exact((change_times(one, -2), change_times(one, 0), change_times(one, 1), change_times((), 3)),
                   ((("a", -4), ("c", 10)), (), one, ()))
        self.exact(change_times((("a", 10 ** 20 - 1),), -MANY), (("a", -MANY * (10 ** 20 - 1)),))

    def test_changed(self):
        held = (("a", 2), ("c", 5))
        self.exact(self.unchanged(changed, held, (("a", -2), ("b", 1), ("c", -4))), (("b", 1), ("c", 1)))
        self.exact((changed(held, ()), changed((), ()), changed((), (("a", 1),))), (held, (), (("a", 1),)))
        self.exact((changed(held, (("a", -3),)), changed(held, (("b", -1),)), changed((), (("a", -1),)),
                    changed(held, (("a", 9), ("c", -6)))), (None, None, None, None))
        self.exact(changed(held, (("a", -2), ("c", -5))), ())
        self.exact(changed(GREAT, change_times(GREAT, -1)), ())

    def test_halves(self):
        self.exact(halves((("a", 2), ("b", -3), ("c", 1))), ((("a", 2), ("c", 1)), (("b", 3),)))
        self.exact((halves(()), halves((("a", 1),)), halves((("a", -1),))),
                   (((), ()), ((("a", 1),), ()), ((), (("a", 1),))))

    def test_changes_by_dicts(self):
        rng = generator(2)
        for _ in range(400):
            held, change = heap_of(random_pairs(rng, 0, 4)), change_of(random_pairs(rng, -3, 3))
            need_change(change)
            numbers, shifts = as_dict(held), as_dict(change)
            behind = {p: numbers.get(p, 0) + shifts.get(p, 0) for p in set(numbers) | set(shifts)}
            fits = min(behind.values(), default=0) >= 0
            self.exact(changed(held, change), of_dict(behind) if fits else None)
            if fits:
                self.exact(gap(held, changed(held, change)), change)
            comes, goes = halves(change)
            need_heap(comes)
            need_heap(goes)
            self.exact(gap(goes, comes), change)
            self.exact(common(comes, goes), ())


class Sequences(Case):
    def test_later_changes_have_no_effect(self):
        for function, sequence, more in ((heap_of, [("a", 1)], ("b", 2)), (change_of, [("a", -1)], ("b", 2)),
                                         (joined, [(("a", 1),)], (("b", 1),)),
                                         (changes_joined, [(("a", -1),)], (("b", 1),))):
            found = function(sequence)
            expected = function(tuple(sequence))
            sequence.append(more)
            self.exact(found, expected)
            self.assertNotEqual(function(sequence), expected)


if __name__ == "__main__":
    unittest.main()
