"""Deeds by chance that often can be done, over a few plans of known shapes."""

from tests.helpers import LETTERS, as_heap, generator, heap, plan_of, step_by_hand

# Plans that are whole, with carries from one into another one; one that is stuck, one that grows, one that is wide.
LINE = plan_of("go: s -> a\nstop: a -> e")
FORK = plan_of("f: s -> a, b\ng: a, b -> e\nh: 2 a -> 2 c\nk: b, c -> e")
TWIN = plan_of("t: s -> 2 a\nu: 2 a -> e\nz: y -> e")
STUCK = plan_of("t: 2 s -> 2 e")
GROWS = plan_of("t: s -> a\nu: a -> 2 a\nv: a -> e")
WIDE = plan_of("\n".join("t%s: %s -> %s" % (LETTERS[k], one, other) for k, (one, other) in enumerate(zip("sabcdfgh", "abcdfghe"))))
PLANS = (LINE, FORK, TWIN, STUCK, GROWS, WIDE)
MOST = 8


def carries(old, new):
    """Some carries: a right one, one that has no edition, ones that are none."""
    line = tuple((place, ((new.end if place == old.end else new.start, 1),)) for place in old.places)
    twice = tuple((place, ((new.end, 1),) if place == old.end else ((new.start, 2),)) for place in old.places)
    dead = tuple((place, ((new.end, 1),) if place == old.end else ((new.places[-1], 1),)) for place in old.places)
    return (line, line, line, twice, dead, line[:-1], line + line[-1:], ())


def some_deeds(seed, many):
    """A row of deeds by chance; names are few, so that they meet."""
    rng = generator(seed)
    return [some_deed(rng, True) for _ in range(many)]


def some_run(rng, plan):
    names = [step[0] for step in plan.steps] + ["nn"] * (rng.random() < 0.05)
    return tuple((rng.choice(names), rng.choice((1, 1, 2, 3))) for _ in range(rng.randint(0, 3)))


def some_papers(rng, plan):
    """Papers that one case leads to, or any ones."""
    papers = {plan.start: 1}
    for _ in range(rng.randint(0, 4)):
        ways = [behind for behind in (step_by_hand(papers, step) for step in plan.steps) if behind]
        papers = rng.choice(ways) if ways else papers
    if rng.random() < 0.2:
        papers = {rng.choice(plan.places + ("zz",)): rng.randint(1, 3)}
    return as_heap(papers) if rng.random() < 0.95 else ()


def some_deed(rng, alone):
    plan_at, plan = rng.choice([("p", LINE), ("q", FORK), ("r", TWIN)])
    other_at, other = rng.choice([("p", LINE), ("q", FORK), ("r", TWIN)])
    floor, crew = rng.choice("fgp"), rng.choice("cdp")
    word = rng.choice(("plan",) * 3 + ("crew",) * 2 + ("edition",) * 3 + ("floor",) * 2 + ("put",) * 3 + ("step",) * 4 + ("off",) * 2
                      + ("carry",) * 2 + ("lay",) * 2 + ("end",) * 2 + ("drop",) * 2 + (("batch",) * 3 + ("undo",) * 3 + ("redo",) * 2) * alone)
    if word == "plan":
        return (word, plan_at, plan) if rng.random() < 0.8 else (word, rng.choice("pqrt"), rng.choice(PLANS))
    if word == "crew":
        names = [step[0] for step in plan.steps] + ["nn"] * (rng.random() < 0.1)
        return word, crew, plan_at, tuple(sorted(rng.sample(names, rng.randint(0, len(names)))))
    if word == "edition":
        other_at, other = rng.choice(((other_at, other), ("r", TWIN)))
        return word, rng.choice("xyyp"), plan_at, other_at, rng.choice(carries(plan, other))
    if word == "floor":
        return word, floor, rng.choice("pqrf")
    if word == "put":
        return word, floor, rng.randint(1, 3)
    if word == "step":
        return word, floor, crew, some_run(rng, plan)
    if word == "off":
        return word, floor, some_papers(rng, plan)
    if word == "carry":
        return word, floor, rng.choice("xyp")
    if word == "lay":
        return word, floor, rng.choice((0, 1, 1, 1)), some_papers(rng, plan)
    if word == "end":
        return word, floor, crew
    if word == "drop":
        return word, rng.choice("pqrcdxyfg")
    if word == "batch":
        return word, tuple(some_deed(rng, False) for _ in range(rng.choice((0, 1, 1, 2, 3))))
    return (word,)


def opening():
    """Deeds that are all done, of each sort, behind which most others have something to meet."""
    line = tuple((place, (("e" if place == "e" else "s", 1),)) for place in LINE.places)
    return [("plan", "p", LINE), ("plan", "q", FORK), ("crew", "c", "p", ("go", "stop")), ("crew", "d", "q", ("f", "g", "k")),
            ("edition", "x", "p", "q", line), ("floor", "f", "p"), ("floor", "g", "q"), ("put", "f", 3), ("lay", "g", 1, heap(b=1, c=1))]
