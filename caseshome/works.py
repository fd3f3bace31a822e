"""What single deeds do to the things of a house: each tells why nothing changes, or what a name has behind it.

Things are kept by name, as a house tells them: ("plan", plan), ("crew", plan's name, steps), ("edition", old's name,
new's name, carry), ("floor", plan's name, cases, heap).
"""

from caseshome.closure import live_steps
from caseshome.editions import Edition, carried, is_carry, is_living
from caseshome.heaps import joined, taken_out, within
from caseshome.lattice import belongs
from caseshome.runs import walk
from caseshome.walks import Walk, ends_of, is_heap_of, starts_of


def has(things, sort, name):
    return name in things and things[name][0] == sort


def plan_named(things, name):
    return things[name][1]


def plan_work(judge, things, deed):
    _, name, plan = deed
    if name in things:
        return "used"
    word = judge.judged(plan).house_word()
    return ("plan", plan) if word == "done" else word


def crew_work(judge, things, deed):
    _, name, plan_name, steps = deed
    if name in things:
        return "used"
    if not has(things, "plan", plan_name):
        return "name"
    live = live_steps(plan_named(things, plan_name))
    if any([step not in live for step in steps]):
        return "step"
    return "crew", plan_name, steps


def edition_work(judge, things, deed):
    _, name, old_name, new_name, carry = deed
    if name in things:
        return "used"
    if not has(things, "plan", old_name) or not has(things, "plan", new_name):
        return "name"
    old, new = plan_named(things, old_name), plan_named(things, new_name)
    if not is_carry(old, new, carry):
        return "carry"
    if not is_living(new, carry):
        return "living"
    if not isinstance(judge.edition(old, new, carry), Edition):
        return "edition"
    return "edition", old_name, new_name, carry


def floor_work(judge, things, deed):
    _, name, plan_name = deed
    if name in things:
        return "used"
    if not has(things, "plan", plan_name):
        return "name"
    return "floor", plan_name, 0, ()


def put_work(judge, things, deed):
    _, floor, number = deed
    if not has(things, "floor", floor):
        return "name"
    _, plan_name, cases, heap = things[floor]
    more = starts_of(plan_named(things, plan_name), number)
    return "floor", plan_name, cases + number, joined((heap, more))


def step_work(judge, things, deed):
    _, floor, crew, run = deed
    if not has(things, "floor", floor) or not has(things, "crew", crew):
        return "name"
    _, plan_name, cases, heap = things[floor]
    _, crew_plan, steps = things[crew]
    if crew_plan != plan_name:
        return "other"
    if any([step not in steps for step, _ in run]):
        return "step"
    stop, behind = walk(plan_named(things, plan_name), heap, run)
    return "papers" if stop is not None else ("floor", plan_name, cases, behind)


def off_work(judge, things, deed):
    _, floor, papers = deed
    if not has(things, "floor", floor):
        return "name"
    _, plan_name, cases, heap = things[floor]
    if papers == () or not within(papers, heap):
        return "papers"
    if not belongs(plan_named(things, plan_name), 1, papers):
        return "class"
    return "floor", plan_name, cases - 1, taken_out(heap, papers)


def carry_work(judge, things, deed):
    _, floor, edition = deed
    if not has(things, "floor", floor) or not has(things, "edition", edition):
        return "name"
    _, plan_name, cases, heap = things[floor]
    _, old_name, new_name, carry = things[edition]
    if old_name != plan_name:
        return "other"
    return "floor", new_name, cases, carried(carry, heap)


def lay_work(judge, things, deed):
    _, floor, cases, heap = deed
    if not has(things, "floor", floor):
        return "name"
    plan_name = things[floor][1]
    plan = plan_named(things, plan_name)
    if not is_heap_of(plan, heap) or not belongs(plan, cases, heap):
        return "class"
    return "floor", plan_name, cases, heap


def end_work(judge, things, deed):
    _, floor, crew = deed
    if not has(things, "floor", floor) or not has(things, "crew", crew):
        return "name"
    _, plan_name, cases, heap = things[floor]
    _, crew_plan, steps = things[crew]
    if crew_plan != plan_name:
        return "other"
    plan = plan_named(things, plan_name)
    # A crew of a whole plan keeps its weights, so this comes to an end.
    walked = Walk(plan, steps, heap, judge.most)
    if walked.is_wide:
        return "many"
    ends = ends_of(plan, cases)
    return "lost" if walked.number_of(ends) is None else ("floor", plan_name, cases, ends)


WORKS = {
    "plan": plan_work,
    "crew": crew_work,
    "edition": edition_work,
    "floor": floor_work,
    "put": put_work,
    "step": step_work,
    "off": off_work,
    "carry": carry_work,
    "lay": lay_work,
    "end": end_work,
}


def hanging_on(things, name):
    """The lot of the names of all that names a thing."""
    return tuple(sorted([other for other in things if name in names_told(things[other])]))


def names_told(thing):
    """The names that a thing names."""
    if thing[0] == "plan":
        return ()
    return thing[1:3] if thing[0] == "edition" else thing[1:2]


def drop_word(things, name):
    if name not in things:
        return "name"
    return "hangs" if hanging_on(things, name) else "done"


def behind_deed(judge, things, deed):
    """The word for a single deed, and the things behind it, which are the same ones if it is not done."""
    name = deed[1]
    if deed[0] == "drop":
        word = drop_word(things, name)
        return word, without(things, name) if word == "done" else things
    work = WORKS[deed[0]]
    found = work(judge, things, deed)
    if isinstance(found, str):
        return found, things
    further = dict(things)
    further[name] = found
    return "done", further


def without(things, name):
    return {other: things[other] for other in things if other != name}


def behind_deeds(judge, things, deeds):
    """The word of the first deed of a batch that is not done, else "done", and the things behind it."""
    before = things
    for deed in deeds:
        word, things = behind_deed(judge, things, deed)
        if word != "done":
            return word, before
    return "done", things
