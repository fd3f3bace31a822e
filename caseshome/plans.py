"""Plans: places, and steps that take papers out of places and lay papers in places."""

from caseshome.basics import is_name
from caseshome.errors import InvalidPlan, NoName, Refused
from caseshome.heaps import amount, gap, heap_of, is_heap

MOST_PAPERS = 9


class Plan:
    def __init__(self, places, steps, start, end):
        need_places(places)
        if not is_name(start) or start not in places:
            raise InvalidPlan("start", -1)
        if not is_name(end) or end not in places or end == start:
            raise InvalidPlan("end", -1)
        need_steps(places, steps, start, end)
        self.places = places
        self.steps = steps
        self.start = start
        self.end = end

    def __eq__(self, other):
        return (isinstance(other, Plan) and self.places == other.places and self.steps == other.steps
                and self.start == other.start and self.end == other.end)


def need_places(places):
    if not isinstance(places, tuple):
        raise InvalidPlan("places", -1)
    for at, place in enumerate(places):
        if not is_name(place) or (at > 0 and place <= places[at - 1]):
            raise InvalidPlan("places", at)


def need_steps(places, steps, start, end):
    if not isinstance(steps, tuple):
        raise InvalidPlan("steps", -1)
    for at, step in enumerate(steps):
        if not is_step(places, step, start, end):
            raise InvalidPlan("steps", at)
        if at > 0 and step[0] <= steps[at - 1][0]:
            raise InvalidPlan("steps", at)


def is_step(places, step, start, end):
    if not isinstance(step, tuple) or len(step) != 3 or not is_name(step[0]):
        return False
    if not is_side(places, step[1]) or not is_side(places, step[2]):
        return False
    return amount(step[1], end) == 0 and amount(step[2], start) == 0


def is_side(places, heap):
    """Whether a step may take, or lay, just this."""
    if not is_heap(heap) or heap == ():
        return False
    return all([place in places and number <= MOST_PAPERS for place, number in heap])


def step_of(plan, name):
    for step in plan.steps:
        if step[0] == name:
            return step
    raise NoName(name)


def step_change(plan, name):
    step = step_of(plan, name)
    return gap(step[1], step[2])


def with_step(plan, triple):
    if triple[0] in names_of(plan):
        raise Refused("used")
    ahead = tuple([step for step in plan.steps if step[0] < triple[0]])
    behind = tuple([step for step in plan.steps if step[0] > triple[0]])
    return Plan(plan.places, ahead + (triple,) + behind, plan.start, plan.end)


def without_steps(plan, names):
    need_steps_named(plan, names)
    return with_only(plan, [step for step in plan.steps if step[0] not in names])


def only_steps(plan, names):
    need_steps_named(plan, names)
    return with_only(plan, [step for step in plan.steps if step[0] in names])


def need_steps_named(plan, names):
    for name in names:
        step_of(plan, name)


def with_only(plan, steps):
    return Plan(plan.places, tuple(steps), plan.start, plan.end)


def with_places(plan, names):
    places = tuple(sorted(set([*plan.places, *names])))
    return Plan(places, plan.steps, plan.start, plan.end)


def renamed(plan, pairs):
    names = {place: place for place in plan.places}
    for place, name in pairs:
        names[place] = name
    places = [names[place] for place in plan.places]
    if len(set(places)) < len(places):
        raise Refused("used")
    steps = [(step[0], moved(names, step[1]), moved(names, step[2])) for step in plan.steps]
    return Plan(tuple(sorted(places)), tuple(steps), names[plan.start], names[plan.end])


def moved(names, heap):
    return heap_of([(names[place], number) for place, number in heap])


def names_of(plan):
    return tuple([step[0] for step in plan.steps])
