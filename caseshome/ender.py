"""The run that ends whatever came about in a whole plan, taken apart into its least heaps."""

from caseshome.court import need_whole
from caseshome.fractions import compared, fraction
from caseshome.lending import ending_by
from caseshome.lists import least_heaps
from caseshome.sums import parts


def ending(plan, cases, heap, most):
    whole = need_whole(plan, most)
    return ending_by(whole, parts(plan, cases, heap))


def dealt(plan, cases, heap, most):
    whole = need_whole(plan, most)
    return tuple([(number, whole.endings[at]) for at, number in parts(plan, cases, heap)])


def step_share(plan, most):
    whole = need_whole(plan, most)
    best = (0, 1)
    for (cases, _), run in zip(least_heaps(plan), whole.endings):
        share = fraction(len(run), cases)
        best = share if compared(share, best) > 0 else best
    return best
