"""Plain searches over heaps, and plans of known shapes, worked out by the tests themselves."""

from caseshome.plans import Plan
from tests.byhand import form_by_hand, is_sum_by_hand
from tests.helpers import LETTERS, as_heap, change_by_hand, live_by_hand, plan_of, random_heap, step_by_hand, triple_of

# Whole plans: the lines of their steps.
WHOLE = ("t: s -> e",
         "t: s -> a\nu: a -> e",
         "f: s -> a, b\ng: a, b -> e",
         "fork: s -> 2 a\njoin: 2 a -> e",
         "f: s -> a, b\ng: a -> c\nh: b -> d\nj: c, d -> e",
         "f: s -> a, b\ng: a, b -> e\nh: 2 a -> 2 c\nk: b, c -> e",
         "in: s -> a\nout: a -> e\nquick: s -> e",
         "f: 2 s -> 2 a\ng: 2 a -> 2 e\nh: s -> e",
         "in: s -> a\nback: a -> b\nturn: b -> a\nout: a -> e",
         "go: s -> a\nhome: a -> e\nlate: z -> e\nlend: a, s -> e, z",
         "go: s -> a\nhome: a -> e\npack: 7 a -> 7 e",
         "a: s -> 2 b\nc: b -> d\nf: 2 b -> e\ng: 2 d -> e\nh: b, d -> e",
         "a: 3 s -> 3 b\nc: 3 b -> 3 e\nd: s -> e")

# Plans with kept weights that are not whole.
STUCK = ("p: s -> 2 a\nq: 3 a -> e",
         "",
         "t: s -> a",
         "end: 3 b -> 3 e\ngo: s -> e\npack: 2 s -> 2 b",
         "t: 2 s -> 2 e",
         "f: s -> a, b\ng: a -> c\nh: b, c -> e\nk: 2 b -> 2 d",
         "t: s -> e\nu: s -> x")

# Plans that make something of nothing.
GROWING = ("t: s -> a\nu: a -> 2 a\nv: a -> e",
           "t: s -> 2 e\nu: s -> e",
           "t: s -> a\nu: a -> e\nv: 2 a -> a, e\nw: a, s -> 2 a, e")

# Twelve steps; least heaps that lead to 5,322 heaps in all, one of them to 2,003.
GREAT = plan_of("in: s -> a\nab: a -> b\nbc: b -> c\ncd: c -> d\ndf: d -> f\nfe: f -> e\npx: 9 s -> 9 x\npy: 9 s -> 9 y\n"
                "pz: 8 s -> 8 z\nqx: 9 x -> 9 a\nqy: 9 y -> 9 a\nqz: 8 z -> 8 a")


def whole_plan(rng, most=2):
    """A whole plan: one of those above, with some steps more whose changes belong with 0 cases."""
    plan = plan_of(rng.choice(WHOLE))
    for _ in range(rng.randint(0, most)):
        plan = with_harmless_step(rng, plan)
    return plan


def with_harmless_step(rng, plan):
    """A plan with a step more that takes from comeable places and makes a sum of what the live steps make."""
    here, live = live_by_hand(plan)
    name = rng.choice([letter for letter in LETTERS if letter not in [step[0] for step in plan.steps]])
    for _ in range(30):
        shift = {}
        for step in rng.sample(sorted(live), min(len(live), 2)):
            times = rng.randint(-1, 1)
            for place, number in change_by_hand(triple_of(plan, step)).items():
                shift[place] = shift.get(place, 0) + times * number
        take = dict(random_heap(rng, sorted(here - {plan.end}), 1, 1)) if rng.random() < 0.3 else {}
        lay = {place: number for place, number in take.items()}
        for place, number in shift.items():
            if number < 0:
                take[place] = take.get(place, 0) - number
            elif number > 0:
                lay[place] = lay.get(place, 0) + number
        if take and lay and plan.end not in take and plan.start not in lay and max([*take.values(), *lay.values()]) < 10:
            step = (name, as_heap(take), as_heap(lay))
            return Plan(plan.places, tuple(sorted(plan.steps + (step,))), plan.start, plan.end)
    return plan


def walk_by_hand(plan, crew, heap, bound=3000):
    """All heaps that come, each with the first of its shortest plain runs, level by level; None above a bound."""
    triples = [triple_of(plan, name) for name in crew]
    found, level = {heap: ()}, {heap: ()}
    while level:
        further = {}
        for papers, run in level.items():
            for triple in triples:
                behind = step_by_hand(dict(papers), triple)
                if behind is not None:
                    further.setdefault(as_heap(behind), []).append(run + (triple[0],))
        level = {papers: min(runs) for papers, runs in further.items() if papers not in found}
        found.update(level)
        if len(found) > bound:
            return None
    return found


def end_by_hand(plan, heap, plain):
    """The heap behind a plain run, None if it cannot be done."""
    papers = dict(heap)
    for name in plain:
        papers = step_by_hand(papers, triple_of(plan, name))
        if papers is None:
            return None
    return as_heap(papers)


def ends(plan, cases):
    return ((plan.end, cases),) if cases else ()


def starts(plan, cases):
    return ((plan.start, cases),) if cases else ()


def live_of(plan):
    return tuple(sorted(live_by_hand(plan)[1]))


def first_lost(plan, crew, pairs):
    """The first of pairs (cases, heap) that a crew does not lead to its ends, None if there is none."""
    for cases, heap in pairs:
        if ends(plan, cases) not in walk_by_hand(plan, crew, heap):
            return cases, heap
    return None


def is_closed(plan, crew, lot):
    for heap in lot:
        for name in crew:
            behind = step_by_hand(dict(heap), triple_of(plan, name))
            if behind is not None and as_heap(behind) not in lot:
                return False
    return True


def form_of(plan):
    """The echelon form of what belongs to a plan, its coordinates the places and last the cases."""
    live = live_by_hand(plan)[1]
    rows = [tuple(change_by_hand(step).get(place, 0) for place in plan.places) + (0,)
            for step in plan.steps if step[0] in live]
    return form_by_hand(rows + [tuple(int(place == plan.start) for place in plan.places) + (1,)])


def belongs_by_hand(plan, cases, heap):
    row = tuple(dict(heap).get(place, 0) for place in plan.places) + (cases,)
    return is_sum_by_hand(form_of(plan), row)


def within_by_hand(heap, other):
    there = dict(other)
    return all(number <= there.get(place, 0) for place, number in heap)


def joined_by_hand(heaps):
    papers = {}
    for heap in heaps:
        for place, number in heap:
            papers[place] = papers.get(place, 0) + number
    return as_heap({place: number for place, number in papers.items() if number})


def cheapest_by_hand(plan, crew, heap_there, goal, costs):
    """The least (cost, steps, run) of all plain runs, by letting better ones go on until none comes."""
    best, cost_of = {heap_there: (0, 0, ())}, dict(costs)
    going = True
    while going:
        going = False
        for papers, (cost, steps, run) in list(best.items()):
            for name in crew:
                behind = end_by_hand(plan, papers, (name,))
                if behind is None:
                    continue
                told = (cost + cost_of[name], steps + 1, run + (name,))
                if behind not in best or told < best[behind]:
                    best[behind] = told
                    going = True
    return (best[goal][0], best[goal][2]) if goal in best else None
