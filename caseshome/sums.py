"""Sums of least heaps: what belongs taken apart, put together, and told for a number of cases."""

from caseshome.errors import Refused
from caseshome.heaps import amount, joined, taken_out, times
from caseshome.lattice import belongs
from caseshome.lists import least_heaps
from caseshome.walks import Fields


def parts(plan, cases, heap):
    pairs = least_heaps(plan)
    if not belongs(plan, cases, heap):
        raise Refused("belongs")
    return parts_among(pairs, heap)


def parts_among(pairs, heap):
    """The parts, among least heaps, of a heap that belongs."""
    found = []
    for at, (_, papers) in enumerate(pairs):
        often = min([amount(heap, place) // number for place, number in papers])
        if often > 0:
            found.append((at, often))
            heap = taken_out(heap, times(papers, often))
    return tuple(found)


def from_parts(plan, pairs):
    least = least_heaps(plan)
    cases = sum([least[at][0] * often for at, often in pairs])
    return cases, joined([times(least[at][1], often) for at, often in pairs])


def open_cases(plan, cases, heap):
    return cases - amount(heap, plan.end)


def coded_pairs(plan, many):
    """The least heaps as pairs (cases, code), and fields with room for the sum of so many of them."""
    pairs = least_heaps(plan)
    greatest = max([number for _, heap in pairs for _, number in heap])
    fields = Fields(plan, (), many * greatest)
    return fields, [(cases, fields.code_of(heap)) for cases, heap in pairs]


def heaps_of(plan, cases, most):
    fields, pairs = coded_pairs(plan, cases)
    sums = [{0: 0}]
    # More cases never have fewer heaps: with one more case a paper may lie at the start. So no step here is in vain.
    for many in range(1, cases + 1):
        sums.append(sums_with(sums, many, pairs, most))
    return tuple(sorted([fields.heap_of_code(code) for code in sums[cases]]))


def sums_with(sums, many, pairs, most):
    """All sums of so many cases, by the sums of fewer cases: each with the least number that can be its last one.

    Each sum has its least heaps in ascending order once, so nothing needs to be put behind a greater number.
    """
    found = {}
    for at, (own, code) in enumerate(pairs):
        if own <= many:
            for other, last in sums[many - own].items():
                if last <= at and other + code not in found:
                    found[other + code] = at
        if len(found) > most:
            raise Refused("many")
    return found


def least_with(plan, every):
    fields, pairs = coded_pairs(plan, every)
    found = {}
    # Of more than `every` least heaps some have a sum of cases that is a multiple: so no level behind them is needed.
    level = {0: 0}
    for _ in range(every):
        level = {code + more: level[code] + own for code in level for own, more in pairs}
        for code in level:
            if level[code] % every == 0:
                found[code] = level[code]
        # What has a multiple within it is no part of a least one.
        level = {code: level[code] for code in level if not has_within(fields, found, code)}
    least = [code for code in found if not has_within(fields, [other for other in found if other != code], code)]
    return tuple(sorted([(found[code], fields.heap_of_code(code)) for code in least]))


def has_within(fields, codes, code):
    for other in codes:
        if fields.holds(code, other):
            return True
    return False
