"""Weights of places that steps keep, or a sum of steps that makes something of nothing."""

from caseshome.basics import is_count
from caseshome.closure import live_steps
from caseshome.fractions import bottom_of, whole_times
from caseshome.heaps import is_change
from caseshome.lattice import is_placed_row
from caseshome.plans import need_steps_named, step_change
from caseshome.rows import balances
from caseshome.runs import sum_change
from caseshome.simplex import Best, least_cost


def place_rows(plan, names):
    """For each place, what each of the steps changes there."""
    changes = [dict(step_change(plan, name)) for name in names]
    return tuple([tuple([change.get(place, 0) for change in changes]) for place in plan.places])


def weighed(plan, names, slack):
    """Weights from 1 on of which a sum over each step is nought, or not above it where there is slack, else prices.

    What a weight has above 1 is taken of the place's row; the target is what the ones alone lack.
    """
    rows = place_rows(plan, names)
    target = tuple([-sum([row[k] for row in rows]) for k in range(len(names))])
    slacks = [tuple([1 if k == at else 0 for k in range(len(names))]) for at in range(len(names)) if slack]
    rows = rows + tuple(slacks)
    return least_cost(rows, target, (1,) * len(plan.places) + (0,) * len(slacks))


def weights_of(plan, found):
    if not isinstance(found, Best):
        return None
    takes = found.takes[:len(plan.places)]
    bottom = bottom_of(takes)
    numbers = [bottom + more for more in whole_times(takes, bottom)]
    return tuple(list(zip(plan.places, numbers)))


def made_of_prices(names, found):
    if isinstance(found, Best):
        return None
    numbers = whole_times(found.prices, bottom_of(found.prices))
    return tuple([(name, -number) for name, number in zip(names, numbers) if number != 0])


def kept_weights(plan):
    return weights_of(plan, weighed(plan, live_steps(plan), False))


def of_nothing(plan):
    live = live_steps(plan)
    return made_of_prices(live, weighed(plan, live, False))


def crew_weights(plan, crew):
    return weights_of(plan, weighed(plan, crew, True))


def crew_makes(plan, crew):
    return made_of_prices(crew, weighed(plan, crew, True))


def check_weights(plan, value):
    if not is_placed_row(plan, value, is_count):
        return False
    return all([weight_of(value, step_change(plan, name)) == 0 for name in live_steps(plan)])


def check_crew_weights(plan, crew, value):
    need_steps_named(plan, crew)
    if not is_placed_row(plan, value, is_count):
        return False
    return all([weight_of(value, step_change(plan, name)) <= 0 for name in crew])


def check_nothing(plan, value):
    return makes_something(plan, live_steps(plan), value)


def check_crew_makes(plan, crew, value):
    need_steps_named(plan, crew)
    return makes_something(plan, crew, value) and all([number > 0 for _, number in value])


def makes_something(plan, names, value):
    if not is_change(value) or any([name not in names for name, _ in value]):
        return False
    change = sum_change(plan, value)
    return change != () and all([number > 0 for _, number in change])


def weights_kept(plan):
    return balances(place_rows(plan, live_steps(plan)))


def weight_of(weights, heap):
    by_place = dict(weights)
    return sum([by_place.get(place, 0) * number for place, number in heap])
