"""The least crews that can end whatever all hands did, and steps that change nothing about this."""

from itertools import combinations

from caseshome.closure import comeable, live_steps
from caseshome.court import need_whole
from caseshome.lattice import belongs
from caseshome.lists import least_heaps
from caseshome.plans import names_of, only_steps, step_change, with_step
from caseshome.walks import Walk, ends_of


def live_walks(plan, most):
    """For each least heap of a whole plan the ways of the walk by all live steps, and the number of its ends."""
    need_whole(plan, most)
    live = live_steps(plan)
    found = []
    for cases, heap in least_heaps(plan):
        walk = Walk(plan, live, heap, most)
        found.append((walk.ways, walk.number_of(ends_of(plan, cases))))
    return found


def is_sure(walks, crew):
    return all([comes_to(ways, crew, goal) for ways, goal in walks])


def comes_to(ways, crew, goal):
    """Whether the ways of a crew's steps lead from number 0 to a number."""
    here = {0: True}
    left = [0]
    while left:
        at = left.pop()
        if at == goal:
            return True
        for name, to in ways[at]:
            if name in crew and to not in here:
                here[to] = True
                left.append(to)
    return False


def least_crews(plan, most):
    walks = live_walks(plan, most)
    live = live_steps(plan)
    found = []
    for many in range(len(live) + 1):
        for crew in combinations(list(live), many):
            if not has_crew_within(found, crew) and is_sure(walks, crew):
                found.append(crew)
    return tuple(found)


def has_crew_within(crews, crew):
    for other in crews:
        if all([name in crew for name in other]):
            return True
    return False


def needed_steps(plan, most):
    walks = live_walks(plan, most)
    live = live_steps(plan)
    return tuple([name for name in live if not is_sure(walks, [other for other in live if other != name])])


def stays_whole(plan, triple):
    name, take, _ = triple
    further = with_step(plan, triple)
    here = comeable(plan)
    if all([place in here for place, _ in take]) and belongs(plan, 0, step_change(further, name)):
        return True
    return None


def only_needed(plan, most):
    live = live_steps(plan)
    crew = least_crews(plan, most)[0]
    return only_steps(plan, [name for name in names_of(plan) if name in crew or name not in live])
