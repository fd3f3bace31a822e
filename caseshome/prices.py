"""What many cases cost at least: prices of places, rounds that come near to them, and the costs of some cases."""

from caseshome.basics import is_count
from caseshome.closure import live_steps
from caseshome.court import need_whole
from caseshome.fractions import bottom_of, whole_times
from caseshome.heaps import gap, joined, times, within
from caseshome.lattice import coordinates
from caseshome.lending import lenders_for, run_times, way_of_lender
from caseshome.plans import step_change, step_of
from caseshome.runs import is_run, leads, walk
from caseshome.simplex import Best, check_cost, least_cost
from caseshome.walks import cheapest, cheapest_on, ends_of, need_crew_weights, starts_of, walk_within


def place_numbers(plan, change):
    return coordinates(plan, 0, change)[:-1]


def live_rows(plan):
    return tuple([place_numbers(plan, step_change(plan, name)) for name in live_steps(plan)])


def one_case_ended(plan):
    """What one case changes in all from its start to its end."""
    return place_numbers(plan, gap(starts_of(plan, 1), ends_of(plan, 1)))


def live_costs(plan, costs):
    by_step = dict(costs)
    return tuple([by_step[name] for name in live_steps(plan)])


def least_mean(plan, costs, most):
    need_whole(plan, most)
    return mean_of(plan, costs)


def mean_of(plan, costs):
    """The least mean of a whole plan."""
    return least_cost(live_rows(plan), one_case_ended(plan), live_costs(plan, costs))


def check_mean(plan, costs, value):
    if not isinstance(value, Best):
        return False
    return check_cost(live_rows(plan), one_case_ended(plan), live_costs(plan, costs), value)


def greatest_mean(plan, costs, most):
    need_whole(plan, most)
    gains = tuple([-cost for cost in live_costs(plan, costs)])
    return least_cost(live_rows(plan), one_case_ended(plan), gains)


def run_of_takes(plan, takes, bottom):
    """The rows of all live steps that are taken above 0 times: so many times the takes, which makes them whole."""
    numbers = whole_times(takes, bottom)
    return tuple([(name, number) for name, number in zip(live_steps(plan), numbers) if number > 0])


def rounds_of(plan, costs, most):
    whole = need_whole(plan, most)
    takes = mean_of(plan, costs).takes
    bottom = bottom_of(takes)
    lent, out, full, home = way_of_lender(plan, whole)
    # Each lender's full heap has a paper at least wherever a live step takes some.
    lenders = lenders_for(plan, run_of_takes(plan, takes, bottom), full)
    return lent * lenders, bottom, run_times(out, lenders), run_times(home, lenders)


def check_rounds(plan, costs, best, value):
    if not isinstance(value, tuple) or len(value) != 4 or not is_count(value[0]) or not is_count(value[1]):
        return False
    cases, bottom, ahead, behind = value
    if not is_run(plan, ahead) or not is_run(plan, behind) or bottom % bottom_of(best.takes) != 0:
        return False
    stop, between = walk(plan, starts_of(plan, cases), ahead)
    if stop is not None or not leads(plan, between, behind, ends_of(plan, cases)):
        return False
    run = run_of_takes(plan, best.takes, bottom)
    return within(joined([times(step_of(plan, name)[1], number) for name, number in run]), between)


def spare_cost(plan, costs, value, one):
    by_step = dict(costs)
    cases, bottom, ahead, behind = value
    return sum([by_step[name] * number for name, number in ahead + behind]) + (cases + bottom) * one


def cost_of(plan, cases, costs, most):
    return cheapest(plan, live_steps(plan), cases, starts_of(plan, cases), costs, most)


def cost_row(plan, costs, most, top):
    live = live_steps(plan)
    need_crew_weights(plan, live)
    found = []
    for cases in range(top + 1):
        walked = walk_within(plan, live, starts_of(plan, cases), most)
        least = cheapest_on(walked, ends_of(plan, cases), costs)
        found.append(None if least is None else least[0])
    return tuple(found)
