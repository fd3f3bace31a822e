"""What belongs to a plan: the pairs (cases, heap) that its live steps and its start make, as far as numbers go."""

from caseshome.basics import is_pair
from caseshome.closure import live_steps
from caseshome.fractions import is_fraction
from caseshome.heaps import is_change
from caseshome.plans import step_change
from caseshome.rows import bar_of, check_bar, check_sum, echelon, leading_place, order_of, rest_of, sum_of


def making_rows(plan):
    """The coordinates of all live steps, and last of the start with its case."""
    rows = [coordinates(plan, 0, step_change(plan, name)) for name in live_steps(plan)]
    return tuple([*rows, coordinates(plan, 1, ((plan.start, 1),))])


def lattice(plan):
    return echelon(making_rows(plan))


def coordinates(plan, cases, heap):
    numbers = dict(heap)
    return tuple([*[numbers.get(place, 0) for place in plan.places], cases])


def pair_at(plan, row):
    change = [(place, number) for place, number in zip(plan.places, row) if number != 0]
    return row[-1], tuple(change)


def belongs(plan, cases, heap):
    return leading_place(rest_of(lattice(plan), coordinates(plan, cases, heap))) is None


def made_by(plan, cases, heap):
    numbers = sum_of(making_rows(plan), coordinates(plan, cases, heap))
    if numbers is None:
        return None
    return tuple([(name, number) for name, number in zip(live_steps(plan), numbers) if number != 0])


def barred(plan, cases, heap):
    bar = bar_of(making_rows(plan), coordinates(plan, cases, heap))
    if bar is None:
        return None
    return tuple(list(zip(plan.places, bar))), bar[-1]


def check_made(plan, cases, heap, value):
    live = live_steps(plan)
    if not is_change(value) or any([name not in live for name, _ in value]):
        return False
    times = dict(value)
    numbers = tuple([*[times.get(name, 0) for name in live], cases])
    return check_sum(making_rows(plan), coordinates(plan, cases, heap), numbers)


def check_barred(plan, cases, heap, value):
    if not is_pair(value) or not is_placed_row(plan, value[0], is_fraction):
        return False
    bar = tuple([*[one for _, one in value[0]], value[1]])
    return check_bar(making_rows(plan), coordinates(plan, cases, heap), bar)


def is_placed_row(plan, value, is_right):
    """Whether a value has a pair for each place of the plan, in order, with something right in it."""
    if not isinstance(value, tuple) or len(value) != len(plan.places):
        return False
    for place, pair in zip(plan.places, value):
        if not is_pair(pair) or pair[0] != place or not is_right(pair[1]):
            return False
    return True


def ends_order(plan):
    return order_of(making_rows(plan), coordinates(plan, 1, ((plan.end, 1),)))


def classes(plan, heaps):
    form = lattice(plan)
    first = {}
    found = []
    for at, heap in enumerate(heaps):
        rest = rest_of(form, coordinates(plan, 0, heap))
        found.append(first.setdefault(rest, at))
    return tuple(found)
