"""How what belongs to a whole plan comes about beside ended cases, which lend what its steps take."""

from caseshome.basics import is_number, is_pair
from caseshome.closure import live_steps, rousing
from caseshome.court import need_whole
from caseshome.errors import Refused
from caseshome.heaps import amount, changes_joined, joined, times
from caseshome.lattice import made_by
from caseshome.plans import step_of
from caseshome.runs import folded, is_run, leads, run_end, run_sum
from caseshome.sums import parts
from caseshome.walks import ends_of, need_crew_weights, starts_of, walk_within


def ending_by(whole, found):
    """The run that ends the parts of what belongs to a whole plan: each one by the ending of its least heap."""
    return folded([(name, many) for at, many in found for name in whole.endings[at]])


def way_of_lender(plan, whole):
    """So many cases, a run to a heap of theirs with papers wherever papers can come, that heap, and a run home."""
    lent, out = rousing(plan)
    full = run_end(plan, starts_of(plan, lent), out)
    return lent, out, full, ending_by(whole, parts(plan, lent, full))


def run_times(run, number):
    """A run with each row so many times as often: what so many heaps can do side by side."""
    return tuple([(name, many * number) for name, many in run if number > 0])


def near(plan, cases, heap, most):
    whole = need_whole(plan, most)
    made = made_by(plan, cases, heap)
    if made is None:
        raise Refused("belongs")
    lent, out, full, home = way_of_lender(plan, whole)
    passers = passers_for(dict(made), out + home)
    middle = changes_joined((made, run_times(out + home, passers)))
    lenders = lenders_for(plan, middle, full)
    return lent * (passers + lenders), run_times(out, lenders) + middle + run_times(home, lenders)


def passers_for(made, way):
    """How many lenders have to go their whole way for no step of a change to be done less than 0 times with them.

    Their way has each live step.
    """
    done = dict(run_sum(way))
    return max([0, *[-(made[name] // done[name]) for name in made]])


def lenders_for(plan, run, full):
    """How many full heaps have all that the steps of a run take together."""
    taken = joined([times(step_of(plan, name)[1], many) for name, many in run])
    return max([0, *[-(-number // amount(full, place)) for place, number in taken]])


def check_near(plan, cases, heap, value):
    if not is_pair(value) or not is_number(value[0]) or not is_run(plan, value[1]):
        return False
    others, run = value
    return leads(plan, starts_of(plan, cases + others), run, joined((heap, ends_of(plan, others))))


def beside_needed(plan, cases, heap, most, top):
    live = live_steps(plan)
    need_crew_weights(plan, live)
    for others in range(top + 1):
        walk = walk_within(plan, live, starts_of(plan, cases + others), most)
        if walk.number_of(joined((heap, ends_of(plan, others)))) is not None:
            return others
    return None
