"""Runs of a plan: rows of steps, single steps that change places, and where they lead."""

from caseshome.basics import is_count, is_pair
from caseshome.errors import InvalidRun, Refused
from caseshome.heaps import amount, change_times, changed, changes_joined, within
from caseshome.plans import names_of, step_change, step_of


def need_run(plan, value):
    at = first_wrong_row(plan, value)
    if at is not None:
        raise InvalidRun(at)


def is_run(plan, value):
    return first_wrong_row(plan, value) is None


def first_wrong_row(plan, value):
    """The number of the first thing that is no row, -1 for no tuple, None if all are rows."""
    if not isinstance(value, tuple):
        return -1
    names = names_of(plan)
    for at, row in enumerate(value):
        if not is_pair(row) or not isinstance(row[0], str) or row[0] not in names or not is_count(row[1]):
            return at
    return None


def first_stop(plan, heap, run):
    return walk(plan, heap, run)[0]


def run_end(plan, heap, run):
    stop, behind = walk(plan, heap, run)
    if stop is not None:
        raise Refused("papers")
    return behind


def walk(plan, heap, run):
    """The pair of the first stop, None if there is none, and the heap there, or behind the run."""
    for at, row in enumerate(run):
        most = most_times(plan, heap, row[0])
        if most is not None and most < row[1]:
            return (at, most), heap
        heap = changed(heap, change_times(step_change(plan, row[0]), row[1]))
    return None, heap


def leads(plan, heap, run, goal):
    """Whether a run can be done and leads from a heap to a goal."""
    stop, behind = walk(plan, heap, run)
    return stop is None and behind == goal


def run_sum(run):
    return changes_joined((run,))


def sum_change(plan, steps):
    return changes_joined([change_times(step_change(plan, name), number) for name, number in steps])


def steps_in(run):
    return sum([number for _, number in run])


def folded(run):
    rows = []
    for name, number in run:
        if rows and rows[-1][0] == name:
            number = number + rows.pop()[1]
        rows.append((name, number))
    return tuple(rows)


def possible(plan, heap):
    return tuple([step[0] for step in plan.steps if within(step[1], heap)])


def most_times(plan, heap, step):
    take = step_of(plan, step)[1]
    if not within(take, heap):
        return 0
    # The last time has to find what it takes, too: what goes away each time is lacking then.
    most = [(amount(heap, place) - amount(take, place)) // -shift + 1
            for place, shift in step_change(plan, step) if shift < 0]
    return min(most) if most else None


def behind_step(plan, heap, step):
    if not within(step_of(plan, step)[1], heap):
        return None
    return changed(heap, step_change(plan, step))


def free(plan, step, other):
    one = step_of(plan, step)
    two = step_of(plan, other)
    return not disturbs(one, two) and not disturbs(two, one)


def disturbs(one, two):
    """Whether the one takes from a place from which the other takes or in which it lays."""
    return any([amount(two[1], place) > 0 or amount(two[2], place) > 0 for place, _ in one[1]])


def bound_steps(plan, plain):
    """For each step of a plain run those of the run's steps that are not free of it."""
    names = sorted(set(plain))
    return {name: [other for other in names if not free(plan, name, other)] for name in names}


def layers(plan, plain):
    bound = bound_steps(plan, plain)
    last = {}
    found = []
    for name in plain:
        level = max([last[other] + 1 for other in bound[name] if other in last], default=0)
        last[name] = level
        if level == len(found):
            found.append([])
        found[level].append(name)
    return tuple([tuple(sorted(layer)) for layer in found])


def alike(plan, plain, other):
    return layers(plan, plain) == layers(plan, other)


def many_orders(plan, plain):
    bound = bound_steps(plan, plain)
    # Bits stand for the single steps: those done, and for each those that have to be done ahead of it.
    ahead = [sum([1 << k for k in range(at) if plain[k] in bound[name]]) for at, name in enumerate(plain)]
    ways = {0: 1}
    for _ in range(len(plain)):
        further = {}
        for done in ways:
            for at, needed in enumerate(ahead):
                following = done | (1 << at)
                if following != done and (done & needed) == needed:
                    further[following] = further.get(following, 0) + ways[done]
        ways = further
    return sum(list(ways.values()))


def can_go_first(plan, plain, at):
    return all([free(plan, plain[at], other) for other in plain[:at]])


def can_go_last(plan, plain, at):
    return all([free(plan, plain[at], other) for other in plain[at + 1:]])
