"""Questions: weights of papers and a share of open cases, and what they are never below."""

from caseshome.basics import is_integer, is_pair
from caseshome.closure import comeable
from caseshome.court import need_whole
from caseshome.fractions import compared, fraction
from caseshome.heaps import amount
from caseshome.lists import least_heaps
from caseshome.sums import open_cases
from caseshome.walks import ends_of
from caseshome.weights import weight_of


def is_question(plan, value):
    if not is_pair(value) or not is_integer(value[1]):
        return False
    weights = value[0]
    asked = [place for place in plan.places if place != plan.end]
    if not isinstance(weights, tuple) or len(weights) != len(asked):
        return False
    return all([is_pair(pair) and pair[0] == place and is_integer(pair[1]) for place, pair in zip(asked, weights)])


def worth_of(plan, question, cases, heap):
    weights, share = question
    # The end has no weight of its own: what lies there is no open case.
    return weight_of(weights, heap) + share * open_cases(plan, cases, heap)


def never_below(plan, question, most):
    need_whole(plan, most)
    for cases, heap in least_heaps(plan):
        if worth_of(plan, question, cases, heap) < 0:
            return cases, heap
    return None


def most_per_case(plan, place, most):
    need_whole(plan, most)
    best = (0, 1)
    for cases, heap in least_heaps(plan):
        if (cases, heap) != (1, ends_of(plan, 1)):
            share = fraction(amount(heap, place), open_cases(plan, cases, heap))
            best = share if compared(share, best) > 0 else best
    return best


def together(plan, heaps, most):
    need_whole(plan, most)
    here = comeable(plan)
    return tuple([all([place in here for place, _ in heap]) for heap in heaps])
