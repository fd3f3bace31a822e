"""Good numbers of cases: all that so many can come to can be ended."""

from caseshome.closure import live_steps
from caseshome.court import first_not_led
from caseshome.errors import Refused
from caseshome.lists import need_weights
from caseshome.sums import least_with
from caseshome.walks import Walk, ends_of, starts_of, walk_within


def walk_of(plan, cases, most):
    """The walk of so many cases by all live steps."""
    return walk_within(plan, live_steps(plan), starts_of(plan, cases), most)


def first_bad(plan, cases, walk):
    """The number of the first heap of the walk of so many cases that cannot be ended, None if there is none."""
    ended = walk.leading_to(walk.number_of(ends_of(plan, cases)))
    for number in range(len(walk.codes)):
        if number not in ended:
            return number
    return None


def is_good(plan, cases, most):
    return first_bad(plan, cases, walk_of(plan, cases, most)) is None


def good(plan, cases, most):
    need_weights(plan)
    return is_good(plan, cases, most)


def bad_run(plan, cases, most):
    need_weights(plan)
    walk = walk_of(plan, cases, most)
    number = first_bad(plan, cases, walk)
    if number is None:
        return None
    return walk.run_to(number), Walk(plan, live_steps(plan), walk.heap_at(number), most).all_heaps()


def good_numbers(plan, most, top):
    need_weights(plan)
    # Fewer cases never come to more heaps: where some number is refused the last one is.
    return tuple([cases for cases in range(top + 1) if is_good(plan, cases, most)])


def all_good(plan, every, most):
    need_weights(plan)
    if not is_good(plan, every, most):
        raise Refused("good")
    pairs = least_with(plan, every)
    _, at, lot = first_not_led(plan, live_steps(plan), pairs, most)
    if at is None:
        return True
    if lot is None:
        raise Refused("many")
    return pairs[at]
