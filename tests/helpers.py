"""What several tests use."""

import copy
import random
import unittest

from caseshome.plans import Plan

LETTERS = "abcdefghijklmnopqrstuvwxyz"

# Values of all sorts that no function may take for something else than they are.
ODD = (None, True, False, 0, 1, -1, 10 ** 3999, "", "a", "start a\nend b", [], ["a"], (), (None,), ("a",), ("a", 1),
       [("a", 1)], ((("a", 1),),), (("a", 1),), (("a", True),), (("a", 0),), (("a", "1"),), ((1, "a"),), (["a", 1],),
       (0, ()), (True, ()), [0, ()], ((), ()), ("t", "t"), (("t", 1),), (("t", True),), ("t", (("a", 1),), (("b", 1),)),
       Plan(("a", "b"), (), "a", "b"), (Plan(("a", "b"), (), "a", "b"), 1), ((Plan(("a", "b"), (), "a", "b"), 1),))


def nested(depth):
    value = ()
    for _ in range(depth):
        value = (value,)
    return value


def kinds(value):
    """The sorts of a value and of all within it."""
    if isinstance(value, (tuple, list)):
        return (type(value).__name__, [kinds(part) for part in value])
    return type(value).__name__


class Case(unittest.TestCase):
    def exact(self, found, expected):
        """Equal, and of the same sorts within: a list is no tuple, a bool no integer."""
        self.assertEqual(found, expected)
        self.assertEqual(kinds(found), kinds(expected))

    def refused(self, kind, attributes, function, *args, **named):
        """The call raises just this class of errors with just these attributes."""
        with self.assertRaises(kind) as caught:
            function(*args, **named)
        error = caught.exception
        self.assertIs(type(error), kind)
        self.exact({name: getattr(error, name) for name in attributes}, attributes)
        for name in attributes:
            self.exact(getattr(error, name), attributes[name])

    def unchanged(self, function, *args):
        """The result of a call that leaves its arguments as they are."""
        kept = copy.deepcopy(args)
        found = function(*args)
        for argument, before in zip(args, kept):
            self.exact(argument, before)
        return found

    def tuples_within(self, value):
        """No list anywhere within, no bool in the place of a number."""
        self.assertNotIsInstance(value, (list, dict, set))
        if isinstance(value, tuple):
            for part in value:
                self.tuples_within(part)


def heap(**numbers):
    return tuple(sorted(numbers.items()))


def plan_of(text, start="s", end="e", places=()):
    """A plan of lines such as `t: 2 a, b -> c`, read by the test itself."""
    steps = []
    for line in text.split("\n"):
        if line.strip():
            name, papers = line.strip().split(": ")
            take, lay = papers.split(" -> ")
            steps.append((name, papers_of(take), papers_of(lay)))
    used = [place for step in steps for papers in step[1:] for place, _ in papers]
    return Plan(tuple(sorted({start, end, *places, *used})), tuple(sorted(steps)), start, end)


def papers_of(text):
    pairs = []
    for words in text.split(", "):
        parts = words.split(" ")
        pairs.append((parts[-1], int(parts[0]) if len(parts) == 2 else 1))
    return tuple(sorted(pairs))


def random_heap(rng, places, most, many):
    chosen = rng.sample(list(places), min(len(places), rng.randint(1, many)))
    return tuple(sorted((place, rng.randint(1, most)) for place in chosen))


def random_plan(rng, places=5, steps=5, most=3, many=2):
    names = sorted(rng.sample(LETTERS, places))
    start, end = rng.sample(names, 2)
    taken = [name for name in names if name != end]
    laid = [name for name in names if name != start]
    triples = [(name, random_heap(rng, taken, most, many), random_heap(rng, laid, most, many))
               for name in sorted(rng.sample(LETTERS, steps))]
    return Plan(tuple(names), tuple(triples), start, end)


def generator(seed):
    return random.Random(seed)


def great_plan():
    """Twelve places, fourteen steps, all names of eight letters, nine papers everywhere."""
    places = tuple("placeab" + letter for letter in LETTERS[:12])
    steps = tuple(("stepabc" + LETTERS[k], ((places[k % 11], 9),), ((places[(k % 11) + 1], 9),)) for k in range(14))
    return Plan(places, steps, places[0], places[11])


def change_by_hand(step):
    """The change of a triple, as a dict."""
    shifts = {}
    for place, number in step[1]:
        shifts[place] = shifts.get(place, 0) - number
    for place, number in step[2]:
        shifts[place] = shifts.get(place, 0) + number
    return {place: shift for place, shift in shifts.items() if shift}


def step_by_hand(papers, step):
    """The dict of papers behind a triple, None if it cannot be done."""
    for place, number in step[1]:
        if papers.get(place, 0) < number:
            return None
    behind = dict(papers)
    for place, shift in change_by_hand(step).items():
        behind[place] = behind.get(place, 0) + shift
    return {place: number for place, number in behind.items() if number}


def as_heap(papers):
    return tuple(sorted(papers.items()))


def triple_of(plan, name):
    return [step for step in plan.steps if step[0] == name][0]


def live_by_hand(plan):
    """The pair of the comeable places and the live steps, as sets, by going on until nothing comes."""
    places, steps, before = {plan.start}, set(), None
    while before != (len(places), len(steps)):
        before = (len(places), len(steps))
        for name, take, lay in plan.steps:
            if all(place in places for place, _ in take):
                steps.add(name)
                places.update(place for place, _ in lay)
    return places, steps


def weighed_plan(rng, places=4, steps=4, heaviest=3, most=3):
    """A plan whose steps all lay just the weight that they take, by some weights of its places."""
    names = sorted(["e", "s"] + rng.sample([letter for letter in LETTERS if letter not in "es"], places - 2))
    weights = {name: rng.randint(1, heaviest) for name in names}
    weights["e"] = weights["s"]
    triples = {}
    for _ in range(60 * steps):
        if len(triples) == steps:
            break
        take = random_heap(rng, [name for name in names if name != "e"], most, 2)
        left = sum(weights[place] * number for place, number in take)
        lay = {}
        while left:
            fitting = [name for name in names if name != "s" and weights[name] <= left]
            if not fitting:
                break
            place = rng.choice(fitting)
            number = rng.randint(1, left // weights[place])
            lay[place] = lay.get(place, 0) + number
            left -= number * weights[place]
        if not left and max(lay.values()) <= 9:
            name = LETTERS[len(triples)]
            triples[name] = (name, take, as_heap(lay))
    return Plan(tuple(names), tuple(triples[name] for name in sorted(triples)), "s", "e")


def grown(value, at):
    """A tuple with something else in one place: what is there, changed a little."""
    return value[:at] + (value[at] + 1,) + value[at + 1:]
