"""Plans put together out of plans, and their least heaps out of those of both."""

from caseshome.errors import Refused
from caseshome.heaps import heap_of, joined, within
from caseshome.lists import least_heaps
from caseshome.plans import Plan, names_of, renamed, step_of


def need_unlike(names):
    if len(set(names)) < len(names):
        raise Refused("names")


def need_unlike_plans(plans, places, steps):
    """Refuse names in use or alike: of the plans' places with further places, of their steps with further steps."""
    need_unlike([*[place for plan in plans for place in plan.places], *places])
    need_unlike([*[name for plan in plans for name in names_of(plan)], *steps])


def one_paper(place):
    return ((place, 1),)


def put_together(plans, places, steps, start, end):
    """The plan of all places and steps of plans, and further ones; a place may be one of several plans."""
    all_places = sorted(set([*[place for plan in plans for place in plan.places], *places]))
    all_steps = sorted([*[step for plan in plans for step in plan.steps], *steps])
    return Plan(tuple(all_places), tuple(all_steps), start, end)


def behind_names(one, other):
    return [(other.start, one.end)]


def either_names(one, other):
    return [(other.start, one.start), (other.end, one.end)]


def behind(one, other):
    need_unlike_plans([one, other], [], [])
    moved = renamed(other, behind_names(one, other))
    return put_together([one, moved], [], [], one.start, moved.end)


def either(one, other):
    need_unlike_plans([one, other], [], [])
    moved = renamed(other, either_names(one, other))
    return put_together([one, moved], [], [], one.start, one.end)


def beside(one, other, fork, join, start, end):
    need_unlike_plans([one, other], [start, end], [fork, join])
    forks = (fork, one_paper(start), heap_of([(one.start, 1), (other.start, 1)]))
    joins = (join, heap_of([(one.end, 1), (other.end, 1)]), one_paper(end))
    return put_together([one, other], [start, end], [forks, joins], start, end)


def inside(plan, step, enter, leave, inner):
    _, take, lay = step_of(plan, step)
    need_unlike_plans([plan, inner], [], [enter, leave])
    kept = [triple for triple in plan.steps if triple[0] != step]
    steps = [*kept, (enter, take, one_paper(inner.start)), (leave, one_paper(inner.end), lay)]
    return put_together([inner], plan.places, steps, plan.start, plan.end)


def again(plan, enter, back, leave, start, end):
    need_unlike_plans([plan], [start, end], [enter, back, leave])
    steps = [(enter, one_paper(start), one_paper(plan.start)), (leave, one_paper(plan.end), one_paper(end)),
             (back, one_paper(plan.end), one_paper(plan.start))]
    return put_together([plan], [start, end], steps, start, end)


def known_whole(word, one, other):
    if word == "again":
        return one
    if word == "inside":
        return one if other is True else None
    if one is True and other is True:
        return True
    if word == "beside" and (one is False or other is False):
        return False
    # One behind the other: where one of both is whole, the other one decides.
    if word == "behind" and (one is True or other is True) and (one is False or other is False):
        return False
    return None


def behind_heaps(one, other):
    behind(one, other)
    return heaps_together(one, other, behind_names(one, other))


def either_heaps(one, other):
    either(one, other)
    return heaps_together(one, other, either_names(one, other))


def heaps_together(one, other, pairs):
    """The least heaps of both, those of the other one with further names of places, each once."""
    names = dict(pairs)
    moved = [(cases, heap_of([(names.get(place, place), number) for place, number in heap]))
             for cases, heap in least_heaps(other)]
    return tuple(sorted(set([*least_heaps(one), *moved])))


def beside_heaps(one, other, fork, join, start, end):
    beside(one, other, fork, join, start, end)
    found = [(1, one_paper(start)), (1, one_paper(end))]
    return tuple(sorted([*found, *least_pairs(least_heaps(one), least_heaps(other))]))


def least_pairs(ones, others):
    """The least of what sums of the one and of the other least heaps with as many cases have together.

    A sum takes one of the others as long as it has more cases of the ones, else one of the ones: so each sum that
    has as many cases of both comes about, and the least ones by sums that have none within them.
    """
    found = {}
    level = {(): (0, 0)}
    while level:
        further = {}
        for heap, (cases, more) in level.items():
            for own, papers in ones if more <= 0 else others:
                total = (cases + own, more + own) if more <= 0 else (cases, more - own)
                further[joined((heap, papers))] = total
        for heap, (cases, more) in further.items():
            if more == 0:
                found[heap] = cases
        level = {heap: further[heap] for heap in further if not has_heap_within(found, heap)}
    least = [heap for heap in found if not has_heap_within([other for other in found if other != heap], heap)]
    return [(found[heap], heap) for heap in least]


def has_heap_within(heaps, heap):
    for other in heaps:
        if within(other, heap):
            return True
    return False
