"""Whether any value is a sheet that holds, worked out by the tests themselves; and values that are changed a little."""

from fractions import Fraction
from math import gcd

from caseshome.lists import least_lists
from caseshome.plans import Plan
from caseshome.weights import kept_weights
from tests.byhand import form_by_hand, is_sum_by_hand
from tests.helpers import as_heap, change_by_hand, live_by_hand, step_by_hand, triple_of
from tests.search import ends, is_closed, live_of, starts

NAMES = "abcdefghijklmnopqrstuvwxyz"


def whole_number(value, least=None):
    return type(value) is int and (least is None or value >= least)


def row(value, length):
    return type(value) is tuple and len(value) == length


def rows(value, right):
    return type(value) is tuple and all(right(part) for part in value)


def ascends(value):
    return all(one < other for one, other in zip(value, value[1:]))


def is_name(value):
    return type(value) is str and 1 <= len(value) <= 8 and all(sign in NAMES for sign in value)


def heap_of(plan, value):
    return (rows(value, lambda pair: row(pair, 2) and type(pair[0]) is str and pair[0] in plan.places and whole_number(pair[1], 1))
            and ascends([place for place, _ in value]))


def crew_of(plan, value):
    names = [step[0] for step in plan.steps]
    return rows(value, lambda name: type(name) is str and name in names) and ascends(value)


def placed(value, places, right):
    return (type(value) is tuple and len(value) == len(places)
            and all(row(pair, 2) and type(pair[0]) is str and pair[0] == place and right(pair[1]) for place, pair in zip(places, value)))


def carry_of(old, new, value):
    if not placed(value, old.places, lambda papers: heap_of(new, papers)):
        return False
    return dict(value)[old.end] == ((new.end, 1),)


def fraction(value):
    return row(value, 2) and whole_number(value[0]) and whole_number(value[1], 1) and gcd(*value) == 1


def question_of(kind, value):
    if kind == "plan":
        return isinstance(value, Plan)
    if type(value) is not tuple or not value or not isinstance(value[0], Plan):
        return False
    plan = value[0]
    if kind == "pair":
        return len(value) == 3 and whole_number(value[1], 0) and heap_of(plan, value[2])
    if kind == "walk":
        return len(value) == 4 and crew_of(plan, value[1]) and whole_number(value[2], 0) and heap_of(plan, value[3])
    if kind == "crew":
        return len(value) == 2 and crew_of(plan, value[1])
    if kind == "carry":
        return len(value) == 3 and isinstance(value[1], Plan) and carry_of(plan, value[1], value[2])
    if kind == "worth":
        asked = [place for place in plan.places if place != plan.end]
        return len(value) == 2 and row(value[1], 2) and placed(value[1][0], asked, whole_number) and whole_number(value[1][1])
    return len(value) == 2 and placed(value[1], [step[0] for step in plan.steps], lambda number: whole_number(number, 0))


def behind(plan, papers, run):
    """The papers behind rows or names, None if they cannot be done."""
    papers = dict(papers)
    for name, many in run:
        if many > 2000:
            return None
        for _ in range(many):
            papers = step_by_hand(papers, triple_of(plan, name))
            if papers is None:
                return None
    return as_heap(papers)


def run_of(names, value):
    """The rows of a run or of a plain run, None for anything else."""
    if rows(value, lambda name: type(name) is str and name in names):
        return [(name, 1) for name in value]
    if rows(value, lambda one: row(one, 2) and type(one[0]) is str and one[0] in names and whole_number(one[1], 1)):
        return list(value)
    return None


def live_holds(plan, paper):
    names = [step[0] for step in plan.steps]
    if not row(paper, 2) or not whole_number(paper[0], 0):
        return False
    if not rows(paper[1], lambda one: row(one, 2) and type(one[0]) is str and one[0] in names and whole_number(one[1], 1)):
        return False
    there = behind(plan, starts(plan, paper[0]), paper[1])
    places, live = live_by_hand(plan)
    return there is not None and live <= {name for name, _ in paper[1]} and places <= {place for place, _ in there}


def weights_hold(plan, paper):
    if not placed(paper, plan.places, lambda number: whole_number(number, 1)):
        return False
    weights = dict(paper)
    return all(sum(weights[place] * number for place, number in change_by_hand(triple_of(plan, name)).items()) == 0 for name in live_of(plan))


def change_of_steps(plan, value):
    """What an ascending tuple of pairs (live step, integer other than 0) changes, None if it is none."""
    live = live_of(plan)
    if not rows(value, lambda pair: row(pair, 2) and type(pair[0]) is str and pair[0] in live and whole_number(pair[1]) and pair[1] != 0):
        return None
    if not ascends([name for name, _ in value]):
        return None
    shifts = {}
    for name, many in value:
        for place, number in change_by_hand(triple_of(plan, name)).items():
            shifts[place] = shifts.get(place, 0) + many * number
    return {place: number for place, number in shifts.items() if number}


def nothing_holds(plan, paper):
    change = change_of_steps(plan, paper)
    return bool(change) and min(change.values()) > 0


def makes(plan, cases, change, paper):
    """Whether live steps lead from so many papers at the start to a change, as far as numbers go."""
    made = change_of_steps(plan, paper)
    if made is None:
        return False
    made[plan.start] = made.get(plan.start, 0) + cases
    return {place: number for place, number in made.items() if number} == {place: number for place, number in change.items() if number}


def bars(plan, cases, change, paper):
    if not row(paper, 2) or not placed(paper[0], plan.places, fraction) or not fraction(paper[1]):
        return False
    by_place, by_case = {place: Fraction(*one) for place, one in paper[0]}, Fraction(*paper[1])

    def worth(shifts, many):
        return sum(by_place[place] * number for place, number in shifts.items()) + many * by_case
    steps = [worth(change_by_hand(triple_of(plan, name)), 0) for name in live_of(plan)]
    return (all(one.denominator == 1 for one in steps + [worth({plan.start: 1}, 1)]) and worth(change, cases).denominator != 1)


def making(plan):
    found = [tuple(change_by_hand(triple_of(plan, name)).get(place, 0) for place in plan.places) + (0,) for name in live_of(plan)]
    return found + [tuple(int(place == plan.start) for place in plan.places) + (1,)]


def lists_hold(plan, paper):
    if kept_weights(plan) is None or not row(paper, len(plan.places) + 1):
        return False
    for at, (told, single) in enumerate(zip(paper, least_lists(plan))):
        if not rows(told, lambda one: row(one, at + 1) and all(whole_number(number) for number in one)) or not ascends(told):
            return False
        form = form_by_hand([one[:at + 1] for one in making(plan)])
        for one in told:
            if not any(one) or min(one[:-1], default=0) < 0 or not is_sum_by_hand(form, one):
                return False
        if not set(single) <= set(told):
            return False
    return True


def least_of(plan):
    return sorted((one[-1], tuple((place, number) for place, number in zip(plan.places, one) if number)) for one in least_lists(plan)[-1])


def endings_hold(plan, crew, paper):
    pairs = least_of(plan)
    if not row(paper, len(pairs)):
        return False
    for (cases, papers), plain in zip(pairs, paper):
        if not rows(plain, lambda name: type(name) is str and name in crew):
            return False
        if behind(plan, papers, [(name, 1) for name in plain]) != ends(plan, cases):
            return False
    return True


def whole_holds(plan, paper):
    return (row(paper, 3) and weights_hold(plan, paper[1]) and lists_hold(plan, paper[0])
            and endings_hold(plan, live_of(plan), paper[2]))


def lot_holds(plan, crew, cases, papers, value):
    if not rows(value, lambda one: heap_of(plan, one)) or not ascends(value):
        return False
    return papers in value and ends(plan, cases) not in value and is_closed(plan, crew, value)


def stuck_holds(plan, paper):
    if not row(paper, 4) or not whole_number(paper[0], 1) or not heap_of(plan, paper[1]):
        return False
    return makes(plan, paper[0], dict(paper[1]), paper[2]) and lot_holds(plan, live_of(plan), paper[0], paper[1], paper[3])


def led_holds(question, paper):
    plan, crew, cases, papers = question
    run = run_of(crew, paper)
    return run is not None and behind(plan, papers, run) == ends(plan, cases)


def dues(old, new, carry):
    found = [("", 1, dict(dict(carry)[old.start]))]
    for name in live_of(old):
        shifts = {}
        for place, number in change_by_hand(triple_of(old, name)).items():
            for to, many in dict(carry)[place]:
                shifts[to] = shifts.get(to, 0) + number * many
        found.append((name, 0, shifts))
    return found


def is_living(new, carry):
    here = live_by_hand(new)[0]
    return all(place in here for _, papers in carry for place, _ in papers)


def edition_holds(question, paper):
    old, new, carry = question
    if not row(paper, 2) or not is_living(new, carry) or not whole_holds(new, paper[0]):
        return False
    due = dues(old, new, carry)
    return row(paper[1], len(due)) and all(
        row(pair, 2) and type(pair[0]) is str and pair[0] == word and makes(new, cases, change, pair[1])
        for (word, cases, change), pair in zip(due, paper[1]))


def no_edition_holds(question, paper):
    old, new, carry = question
    if not row(paper, 2) or not is_living(new, carry) or type(paper[0]) is not str:
        return False
    return any(word == paper[0] and bars(new, cases, change, paper[1]) for word, cases, change in dues(old, new, carry))


def worth(question, cases, papers):
    plan, (weights, share) = question
    there = dict(papers)
    return sum(weight * there.get(place, 0) for place, weight in weights) + share * (cases - there.get(plan.end, 0))


def below_holds(question, paper):
    plan = question[0]
    if not row(paper, 3) or not whole_number(paper[0], 0) or not heap_of(plan, paper[1]):
        return False
    return makes(plan, paper[0], dict(paper[1]), paper[2]) and worth(question, paper[0], paper[1]) < 0


def mean_holds(question, paper):
    plan, costs = question
    live = live_of(plan)
    if not row(paper, 3) or not fraction(paper[0]):
        return False
    if not row(paper[1], len(live)) or not row(paper[2], len(plan.places)) or not all(fraction(one) for one in paper[1] + paper[2]):
        return False
    takes, prices = [Fraction(*one) for one in paper[1]], dict(zip(plan.places, [Fraction(*one) for one in paper[2]]))
    changes = [change_by_hand(triple_of(plan, name)) for name in live]
    for place in plan.places:
        if sum(take * change.get(place, 0) for take, change in zip(takes, changes)) != (place == plan.end) - (place == plan.start):
            return False
    for name, change in zip(live, changes):
        if sum(prices[place] * number for place, number in change.items()) > dict(costs)[name]:
            return False
    cost = sum((take * dict(costs)[name] for name, take in zip(live, takes)), Fraction(0))
    return all(take >= 0 for take in takes) and cost == Fraction(*paper[0]) == prices[plan.end] - prices[plan.start]


def near_holds(question, paper):
    plan, cases, papers = question
    names = [step[0] for step in plan.steps]
    if not row(paper, 2) or not whole_number(paper[0], 0):
        return False
    if not rows(paper[1], lambda one: row(one, 2) and type(one[0]) is str and one[0] in names and whole_number(one[1], 1)):
        return False
    there = dict(papers)
    there[plan.end] = there.get(plan.end, 0) + paper[0]
    return behind(plan, starts(plan, cases + paper[0]), paper[1]) == as_heap({place: number for place, number in there.items() if number})


LOOKS = {
    "below": ("worth", below_holds),
    "edition": ("carry", edition_holds),
    "in": ("pair", lambda asked, paper: makes(asked[0], asked[1], dict(asked[2]), paper)),
    "led": ("walk", led_holds),
    "lists": ("plan", lists_hold),
    "live": ("plan", live_holds),
    "lost": ("walk", lambda asked, paper: lot_holds(*asked, paper)),
    "mean": ("costs", mean_holds),
    "near": ("pair", near_holds),
    "never": ("worth", lambda asked, paper: whole_holds(asked[0], paper) and all(worth(asked, *pair) >= 0 for pair in least_of(asked[0]))),
    "no edition": ("carry", no_edition_holds),
    "nothing": ("plan", nothing_holds),
    "out": ("pair", lambda asked, paper: bars(asked[0], asked[1], dict(asked[2]), paper)),
    "stuck": ("plan", stuck_holds),
    "sure": ("crew", lambda asked, paper: row(paper, 2) and whole_holds(asked[0], paper[0]) and endings_hold(asked[0], asked[1], paper[1])),
    "weights": ("plan", weights_hold),
    "whole": ("plan", whole_holds),
}


def holds_by_hand(value):
    if not row(value, 3) or type(value[0]) is not str or value[0] not in LOOKS:
        return False
    kind, look = LOOKS[value[0]]
    return question_of(kind, value[1]) and look(value[1], value[2])


def changed(value):
    """Values that are a little unlike a value: one thing in one place, however deep."""
    if isinstance(value, bool):
        return [not value, int(value), None]
    if isinstance(value, int):
        return [value + 1, value - 1, -value, bool(value), str(value), (value,), None]
    if isinstance(value, str):
        return [value + "a", value[:-1], "zz", value.upper(), None, (value,)]
    if isinstance(value, Plan):
        further = Plan(tuple(sorted(set(value.places) | {"zz"})), value.steps, value.start, value.end)
        return [further, Plan(value.places, value.steps[1:], value.start, value.end), None, value.places]
    if not isinstance(value, tuple):
        return [None]
    found = [list(value), value + (None,), value[1:], value[:-1], value[::-1], (), None, value + value[-1:]]
    for at, part in enumerate(value):
        found += [value[:at] + (other,) + value[at + 1:] for other in changed(part)]
        found.append(value[:at] + value[at + 1:])
    return found
