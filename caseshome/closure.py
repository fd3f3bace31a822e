"""What can ever come about: comeable places, live steps, and a run that rouses all of them."""

from caseshome.basics import is_number, is_pair
from caseshome.heaps import amount, times
from caseshome.plans import only_steps, step_of
from caseshome.runs import first_stop, is_run, run_end


def rounds(plan):
    here = {plan.start: True}
    left = list(plan.steps)
    found = []
    while True:
        now = [step for step in left if all([place in here for place, _ in step[1]])]
        if not now:
            return tuple(found)
        found.append(tuple([step[0] for step in now]))
        for step in now:
            for place, _ in step[2]:
                here[place] = True
        left = [step for step in left if step not in now]


def live_in_order(plan):
    """The names of the live steps, none ahead of those that first lay what it takes."""
    return [name for names in rounds(plan) for name in names]


def live_steps(plan):
    return tuple(sorted(live_in_order(plan)))


def comeable(plan):
    laid = [place for name in live_in_order(plan) for place, _ in step_of(plan, name)[2]]
    return tuple(sorted(set([plan.start, *laid])))


def live_plan(plan):
    return only_steps(plan, live_in_order(plan))


def rousing(plan):
    order = live_in_order(plan)
    first = {}
    for name in order:
        for place, _ in step_of(plan, name)[2]:
            first.setdefault(place, name)
    needed = {place: 1 for place in comeable(plan)}
    run = []
    # Backward: when a step is reached, all is known that is to be taken of what it is the first to lay.
    for name in reversed(order):
        _, take, lay = step_of(plan, name)
        number = max([1, *[-(-needed[place] // many) for place, many in lay if first[place] == name]])
        for place, many in take:
            needed[place] = needed[place] + number * many
        run.append((name, number))
    return needed[plan.start], tuple(run[::-1])


def check_rousing(plan, value):
    if not is_pair(value) or not is_number(value[0]) or not is_run(plan, value[1]):
        return False
    cases, run = value
    heap = times(((plan.start, 1),), cases)
    if first_stop(plan, heap, run) is not None:
        return False
    done = [name for name, _ in run]
    behind = run_end(plan, heap, run)
    return (all([name in done for name in live_steps(plan)])
            and all([amount(behind, place) > 0 for place in comeable(plan)]))
