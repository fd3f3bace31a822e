"""Whether a plan is whole, and whether a crew can end whatever all hands did: by the least heaps."""

from caseshome.basics import is_count
from caseshome.closure import live_steps
from caseshome.errors import Refused
from caseshome.lattice import belongs
from caseshome.lists import least_heaps
from caseshome.plans import need_steps_named
from caseshome.runs import leads
from caseshome.walks import Lost, Walk, check_led, ends_of, is_heap_of, is_plain_run, need_crew_weights, run_of
from caseshome.weights import check_nothing, kept_weights, of_nothing


class Growing:
    def __init__(self, made):
        self.made = made

    def __eq__(self, other):
        return isinstance(other, Growing) and self.made == other.made


class Wide:
    def __init__(self, cases, heap):
        self.cases = cases
        self.heap = heap

    def __eq__(self, other):
        return isinstance(other, Wide) and self.cases == other.cases and self.heap == other.heap


class Stuck:
    def __init__(self, cases, heap, lot):
        self.cases = cases
        self.heap = heap
        self.lot = lot

    def __eq__(self, other):
        return (isinstance(other, Stuck) and self.cases == other.cases and self.heap == other.heap
                and self.lot == other.lot)


class Whole:
    def __init__(self, endings):
        self.endings = endings

    def __eq__(self, other):
        return isinstance(other, Whole) and self.endings == other.endings


class Sure:
    def __init__(self, endings):
        self.endings = endings

    def __eq__(self, other):
        return isinstance(other, Sure) and self.endings == other.endings


class Unsure:
    def __init__(self, cases, heap, lot):
        self.cases = cases
        self.heap = heap
        self.lot = lot

    def __eq__(self, other):
        return (isinstance(other, Unsure) and self.cases == other.cases and self.heap == other.heap
                and self.lot == other.lot)


def first_not_led(plan, crew, pairs, most):
    """Lead the heaps of pairs (cases, heap), in order, to their ends by a crew.

    The triple of the endings, the number of the first pair that is too wide or lost, and the lot of a lost one.
    """
    endings = []
    for at, (cases, heap) in enumerate(pairs):
        walk = Walk(plan, crew, heap, most)
        if walk.is_wide:
            return tuple(endings), at, None
        found = walk.led_to(ends_of(plan, cases))
        if isinstance(found, Lost):
            return tuple(endings), at, found.lot
        endings.append(found.run)
    return tuple(endings), None, None


def verdict(plan, most):
    made = of_nothing(plan)
    if made is not None:
        return Growing(made)
    return verdict_over(plan, least_heaps(plan), most)


def verdict_over(plan, pairs, most):
    """The verdict on a plan with kept weights, by its least heaps."""
    endings, at, lot = first_not_led(plan, live_steps(plan), pairs, most)
    if at is None:
        return Whole(endings)
    cases, heap = pairs[at]
    return Wide(cases, heap) if lot is None else Stuck(cases, heap, lot)


def need_whole(plan, most):
    """The Whole of a whole plan; anything else is refused."""
    found = verdict(plan, most)
    if not isinstance(found, Whole):
        raise Refused("whole")
    return found


def whole_or_not(plan, most):
    found = verdict(plan, most)
    return None if isinstance(found, Wide) else isinstance(found, Whole)


def check_verdict(plan, value):
    live = live_steps(plan)
    if isinstance(value, Growing):
        return check_nothing(plan, value.made)
    if isinstance(value, Stuck):
        return shows_lost(plan, live, value)
    if not isinstance(value, Whole) or kept_weights(plan) is None:
        return False
    return are_endings(plan, live, least_heaps(plan), value.endings)


def shows_lost(plan, crew, told):
    """Whether a Stuck or an Unsure has a pair that belongs, and a lot that shows it lost."""
    if not is_belonging(plan, told.cases, told.heap):
        return False
    return check_led(plan, crew, told.cases, told.heap, Lost(told.lot))


def is_belonging(plan, cases, heap):
    """Whether any values are a number of cases from 1 on and a heap that belong to the plan."""
    return is_count(cases) and is_heap_of(plan, heap) and belongs(plan, cases, heap)


def are_endings(plan, crew, pairs, value):
    """Whether it has a plain run of the crew for each pair (cases, heap), in order, that leads to its ends."""
    if not isinstance(value, tuple) or len(value) != len(pairs):
        return False
    for (cases, heap), run in zip(pairs, value):
        if not is_plain_run(crew, run) or not leads(plan, heap, run_of(crew, run), ends_of(plan, cases)):
            return False
    return True


def sure(plan, crew, most):
    need_steps_named(plan, crew)
    need_whole(plan, most)
    need_crew_weights(plan, crew)
    return sure_over(plan, crew, least_heaps(plan), most)


def sure_over(plan, crew, pairs, most):
    """What is told of a crew of a whole plan, by the least heaps."""
    # No crew comes to more heaps than all live steps, and those of a whole plan come to no more than `most`.
    endings, at, lot = first_not_led(plan, crew, pairs, most)
    return Sure(endings) if at is None else Unsure(pairs[at][0], pairs[at][1], lot)


def check_sure(plan, crew, value):
    need_steps_named(plan, crew)
    if kept_weights(plan) is None:
        return False
    if isinstance(value, Unsure):
        return shows_lost(plan, crew, value)
    return isinstance(value, Sure) and are_endings(plan, crew, least_heaps(plan), value.endings)
