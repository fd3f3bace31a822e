"""[25] to [27]: weights."""

import unittest

from caseshome.plans import Plan
from caseshome.weights import (check_crew_makes, check_crew_weights, check_nothing, check_weights, crew_makes,
                               crew_weights, kept_weights, of_nothing, weight_of, weights_kept)
from tests.byhand import is_sum_by_hand, rank_by_hand
from tests.helpers import (ODD, Case, change_by_hand, generator, great_plan, heap, live_by_hand, nested, plan_of, random_plan,
                           triple_of, weighed_plan)

KEEPS = Plan(("a", "e", "s"), (("end", (("a", 1),), (("e", 1),)), ("go", (("s", 1),), (("a", 2),))), "s", "e")
GROWS = Plan(("a", "e", "s"), (("end", (("a", 1),), (("e", 1),)), ("go", (("s", 1),), (("a", 1),)),
                               ("more", (("a", 1),), (("a", 2),))), "s", "e")
BARE = Plan(("a", "b"), (), "a", "b")


def total(plan, pairs):
    """What steps make, so many times each."""
    made = {}
    for name, number in pairs:
        for place, shift in change_by_hand(triple_of(plan, name)).items():
            made[place] = made.get(place, 0) + number * shift
    return {place: number for place, number in made.items() if number}


def raised(plan, weights, name):
    """How much more weight a step lays than it takes."""
    return sum(dict(weights)[place] * shift for place, shift in change_by_hand(triple_of(plan, name)).items())


def is_ascending(pairs, names):
    told = [name for name, _ in pairs]
    return told == sorted(set(told)) and set(told) <= set(names)


class Weights(Case):
    def test_examples(self):
        self.exact([weights_kept(KEEPS), of_nothing(KEEPS), check_weights(KEEPS, (("a", 1), ("e", 1), ("s", 2))),
                    weight_of((("a", 1), ("s", 2)), (("a", 3), ("e", 5), ("s", 1)))], [((1, 1, 2),), None, True, 5])
        self.exact([kept_weights(GROWS), crew_weights(GROWS, ("more",)),
                    check_crew_makes(GROWS, ("more",), (("more", 3),)), crew_makes(GROWS, ("end", "go"))],
                   [None, None, True, None])

    def are_weights(self, plan, value):
        self.exact(tuple(place for place, _ in value), plan.places)
        self.assertTrue(all(type(weight) is int and weight >= 1 for _, weight in value))
        self.tuples_within(value)

    def exactly_one(self, plan):
        weights, made = self.unchanged(kept_weights, plan), self.unchanged(of_nothing, plan)
        self.assertEqual((weights is None) + (made is None), 1)
        live = sorted(live_by_hand(plan)[1])
        if made is None:
            self.are_weights(plan, weights)
            self.assertTrue(all(raised(plan, weights, name) == 0 for name in live))
            self.exact((check_weights(plan, weights), check_nothing(plan, ())), (True, False))
        else:
            self.assertTrue(is_ascending(made, live))
            self.assertTrue(all(type(number) is int and number != 0 for _, number in made))
            self.assertTrue(total(plan, made) and min(total(plan, made).values()) > 0)
            self.tuples_within(made)
            self.exact(check_nothing(plan, made), True)
        return made is None

    def exactly_one_of_a_crew(self, plan, crew):
        weights, made = self.unchanged(crew_weights, plan, crew), self.unchanged(crew_makes, plan, crew)
        self.assertEqual((weights is None) + (made is None), 1)
        if made is None:
            self.are_weights(plan, weights)
            self.assertTrue(all(raised(plan, weights, name) <= 0 for name in crew))
            self.exact(check_crew_weights(plan, crew, weights), True)
        else:
            self.assertTrue(is_ascending(made, crew))
            self.assertTrue(all(type(number) is int and number >= 1 for _, number in made))
            self.assertTrue(total(plan, made) and min(total(plan, made).values()) > 0)
            self.tuples_within(made)
            self.exact(check_crew_makes(plan, crew, made), True)
        return made is None

    def test_known(self):
        for text, expected in (("", True), ("t: s -> e", True), ("t: s -> 2 e", True), ("t: s -> a\nu: a -> 2 a", False),
                               ("t: s -> 2 a\nu: a -> e\nv: s -> e", False), ("t: s -> 2 a\nu: a -> e\nv: s -> 2 e", True),
                               ("t: s -> a\nu: s -> 2 a", False), ("t: s -> a, b\nu: a -> e\nv: b -> e", True),
                               ("z: y -> 2 y", True), ("t: s -> a\nz: y -> 2 y", True),
                               ("t: 2 s -> 3 a\nu: 2 a -> 3 b\nv: 4 s -> 9 b", True), ("t: 2 s -> 3 a\nu: 2 a -> 3 b\nv: 4 s -> 8 b", False),
                               ("t: s -> a\nu: a, b -> b, e\nv: s -> b", True)):
            self.assertIs(self.exactly_one(plan_of(text)), expected, text)

    def test_exactly_one(self):
        rng = generator(50)
        counts, dead = [0, 0], [0, 0]
        for count in range(400):
            plan = weighed_plan(rng, rng.randint(2, 6), rng.randint(0, 6)) if count % 2 else random_plan(rng, rng.randint(3, 4), rng.randint(0, 6))
            found = self.exactly_one(plan)
            counts[found] += 1
            dead[found] += len(live_by_hand(plan)[1]) < len(plan.steps)
        self.assertGreater(min(counts), 30)
        self.assertGreater(min(dead), 0)

    def test_dead_steps_do_not_count(self):
        plan = plan_of("t: s -> a\nu: a -> e\nx: y -> 2 y\nz: y, a -> 9 e")
        self.assertTrue(self.exactly_one(plan))
        self.exact((check_weights(plan, heap(a=1, e=1, s=1, y=5)), check_nothing(plan, (("x", 1),))), (True, False))
        self.assertFalse(self.exactly_one_of_a_crew(plan, ("x",)))
        self.assertTrue(self.exactly_one_of_a_crew(plan, ("t", "z")))

    def test_crews(self):
        plan = plan_of("t: s -> 2 a\nu: 2 a -> e\nv: 2 a -> a\nw: a -> b\nx: b -> 2 a")
        for crew, expected in (((), True), (("t",), True), (("t", "u", "v"), True), (("w",), True), (("x",), True),
                               (("w", "x"), False), (("v", "w", "x"), False), (("t", "u", "v", "w", "x"), False)):
            self.assertIs(self.exactly_one_of_a_crew(plan, crew), expected)
        self.exact((crew_makes(plan, ()), check_crew_weights(BARE, (), heap(a=3, b=1))), (None, True))

    def test_exactly_one_of_crews(self):
        rng = generator(51)
        counts = [0, 0]
        for count in range(400):
            plan = random_plan(rng, 4, 5, 2, 2) if count % 3 else weighed_plan(rng, 5, 5)
            crew = tuple(step[0] for step in plan.steps if rng.random() < 0.6)
            counts[self.exactly_one_of_a_crew(plan, crew)] += 1
        self.assertGreater(min(counts), 40)

    def test_greatest(self):
        self.assertTrue(self.exactly_one(great_plan()))
        rng = generator(52)
        for _ in range(30):
            plan = random_plan(rng, 12, 14, 9, 4)
            self.exactly_one(plan)
            self.exactly_one_of_a_crew(plan, tuple(step[0] for step in plan.steps))
            self.exactly_one(weighed_plan(rng, 12, 14, 9, 9))
        nines = "\n".join(f"{a}{b}: {a} -> 9 {b}" for a, b in zip("sabcdfghij", "abcdfghije"))
        self.assertTrue(self.exactly_one(plan_of(nines)))
        self.assertFalse(self.exactly_one(plan_of(nines + "\nz: s -> e")))


class Checked(Case):
    def test_check_weights(self):
        for value in ((("a", 1), ("e", 1), ("s", 2)), (("a", 7), ("e", 7), ("s", 14)),
                      (("a", 10 ** 200), ("e", 10 ** 200), ("s", 2 * 10 ** 200))):
            self.exact(check_weights(KEEPS, value), True)
            self.exact(check_weights(value=value, plan=KEEPS), True)
        for value in ((("a", 1), ("e", 1), ("s", 1)), (("a", 1), ("e", 2), ("s", 2)), (("a", 0), ("e", 0), ("s", 0)),
                      (("a", -1), ("e", -1), ("s", -2)), (("a", True), ("e", 1), ("s", 2)), (("a", 1), ("e", True), ("s", 2)),
                      (("a", 1), ("s", 2)), (("a", 1), ("e", 1)), (("a", 1), ("s", 2), ("e", 1)),
                      (("a", 1), ("e", 1), ("s", 2), ("t", 1)), (("a", 1), ("a", 1), ("e", 1), ("s", 2)),
                      [("a", 1), ("e", 1), ("s", 2)], (["a", 1], ("e", 1), ("s", 2)), (("a", 1), ("e", 1), ("s", 2, 0)),
                      (("a", (1, 1)), ("e", (1, 1)), ("s", (2, 1))), (("a", "1"), ("e", 1), ("s", 2)), (1, 1, 2), None, (), 1,
                      (("a", 1), ("e", 1), ("b", 2)), ((None, 1), ("e", 1), ("s", 2))):
            self.exact(check_weights(KEEPS, value), False)
        self.exact((check_weights(BARE, heap(a=1, b=5)), check_weights(BARE, ()), check_weights(BARE, heap(a=1))),
                   (True, False, False))
        for value in ODD + (nested(80),):
            self.exact((check_weights(KEEPS, value), check_nothing(GROWS, value), check_crew_weights(GROWS, (), value),
                        check_crew_makes(GROWS, ("more",), value)), (False, False, False, False))

    def test_check_nothing(self):
        for value in ((("more", 1),), (("go", -1), ("more", 1)), (("go", -5), ("more", 9)), (("end", 2), ("more", 2)),
                      (("end", 10 ** 200), ("more", 10 ** 200))):
            self.exact(check_nothing(GROWS, value), True)
            self.exact(check_nothing(value=value, plan=GROWS), True)
        for value in ((), (("go", -1),), (("end", 1), ("go", 1)), (("end", 2), ("more", 1)), (("go", 1), ("more", 1)),
                      (("more", 0),), (("more", True),), (("more", -1),), [("more", 1)], (["more", 1],), (("more", 1, 0),),
                      (("more", 1), ("more", 1)), (("more", 2), ("go", -1)), (("more", 1), ("x", 1)), (("x", 1),),
                      (("more", "1"),), ("more", 1), (("more",),), None, 1, "more", (("end", 0), ("more", 1))):
            self.exact(check_nothing(GROWS, value), False)
        self.exact((check_nothing(BARE, ()), check_nothing(KEEPS, (("end", 1), ("go", 1))), check_nothing(KEEPS, (("go", -1),))),
                   (False, False, False))

    def test_check_crew_weights(self):
        crew = ("end", "go")
        for value in ((("a", 1), ("e", 1), ("s", 1)), (("a", 2), ("e", 1), ("s", 9)), (("a", 9), ("e", 9), ("s", 10 ** 100))):
            self.exact(check_crew_weights(GROWS, crew, value), True)
            self.exact(check_crew_weights(value=value, crew=crew, plan=GROWS), True)
        for value in ((("a", 2), ("e", 1), ("s", 1)), (("a", 1), ("e", 2), ("s", 2)), (("a", 0), ("e", 0), ("s", 1)),
                      (("a", 1), ("s", 1)), (("a", 1), ("e", True), ("s", 1)), [("a", 1), ("e", 1), ("s", 1)],
                      (("a", 1), ["e", 1], ("s", 1)), (("a", 1), ("s", 1), ("e", 1)), (("a", 1), ("e", 1), ("s", 1), ("t", 1)),
                      (("a", 1), ("e", -1), ("s", 1)), None, (), 5):
            self.exact(check_crew_weights(GROWS, crew, value), False)
        self.exact(check_crew_weights(GROWS, ("end", "go", "more"), (("a", 1), ("e", 1), ("s", 1))), False)

    def test_check_crew_makes(self):
        plan = plan_of("t: a -> b\nu: b -> 2 a\nv: 2 a -> a, b\nw: s -> a")
        for crew, value in ((("t", "u"), (("t", 1), ("u", 1))), (("t", "u"), (("t", 3), ("u", 2))),
                            (("t", "u", "v"), (("t", 1), ("u", 2), ("v", 1))), (("t", "u", "v", "w"), (("t", 1), ("u", 1)))):
            self.exact(check_crew_makes(plan, crew, value), True)
            self.exact(check_crew_makes(value=value, crew=crew, plan=plan), True)
        for value in ((("t", 1),), (("u", 1),), (("t", 3), ("u", 1)), (("t", -1), ("u", -1)), (("t", 1), ("u", True)),
                      (("t", 0), ("u", 1)), (("u", 1), ("t", 1)), (("t", 1), ("t", 1), ("u", 1)), (("t", 1), ("u", 1), ("v", 1)),
                      (("t", 1), ("u", 1), ("x", 1)), [("t", 1), ("u", 1)], (("t", 1), ["u", 1]), (("t", 1), ("u", 1, 1)), (),
                      None, 1, "tu", (("t", 2), ("u", "1")), (("t", 1), ("u", 0))):
            self.exact(check_crew_makes(plan, ("t", "u"), value), False)
        # As far as numbers go this makes something of nothing, but not with times from 1 on.
        signed = plan_of("t: 2 a -> b\nu: a -> b")
        for value in ((("t", -1), ("u", 1)), (("t", -1), ("u", 2))):
            self.exact(check_crew_makes(signed, ("t", "u"), value), False)

    def test_one_changed(self):
        rng = generator(53)
        for _ in range(60):
            plan = weighed_plan(rng, 4, 4)
            weights = kept_weights(plan)
            live = live_by_hand(plan)[1]
            for at, (place, weight) in enumerate(weights):
                other = weights[:at] + ((place, weight + 1),) + weights[at + 1:]
                self.exact(check_weights(plan, other), all(raised(plan, other, name) == 0 for name in live))
                self.exact(check_weights(plan, weights[:at] + weights[at + 1:]), False)


class AllWeights(Case):
    def test_weights_kept(self):
        self.exact((weights_kept(BARE), weights_kept(GROWS), weights_kept(plan_of("t: s -> a\nz: y -> 2 y"))),
                   (((1, 0), (0, 1)), (), ((1, 0, 1, 0), (0, 1, 0, 0), (0, 0, 0, 1))))
        self.exact(weights_kept(plan_of("t: s -> a, b\nu: a, b -> e")), ((1, 0, 1, 1), (0, 1, 1, 1)))

    def test_by_hand(self):
        rng = generator(54)
        for count in range(150):
            plan = weighed_plan(rng, 5, 4) if count % 2 else random_plan(rng, 5, 3)
            live = sorted(live_by_hand(plan)[1])
            found = self.unchanged(weights_kept, plan)
            self.tuples_within(found)
            rows = [[change_by_hand(triple_of(plan, name)).get(place, 0) for place in plan.places] for name in live]
            for row in found:
                for step in rows:
                    self.assertEqual(sum(one * two for one, two in zip(row, step)), 0)
            self.exact(len(found), len(plan.places) - rank_by_hand(rows))
            weights = kept_weights(plan)
            if weights is not None:
                self.assertTrue(is_sum_by_hand(found, [weight for _, weight in weights]))

    def test_weight_of(self):
        for sort in (list, tuple):
            weights = sort([("s", 2), ("a", -1)])
            self.exact((weight_of(weights, heap(a=3, s=1)), weight_of(weights, ()), weight_of(weights, heap(e=5))), (-1, 0, 0))
            self.exact((weight_of(sort([]), heap(a=3)), weight_of(sort([("a", 10 ** 12)]), heap(a=10 ** 12))), (0, 10 ** 24))


if __name__ == "__main__":
    unittest.main()
