"""Heaps of papers in places, and changes of such heaps."""

from caseshome.basics import is_count, is_name, is_pair, is_shift
from caseshome.errors import InvalidHeap


def first_wrong(value, is_right):
    """The number of the first thing that is no right pair, -1 for no tuple, None if all are right."""
    if not isinstance(value, tuple):
        return -1
    for at, pair in enumerate(value):
        if not is_pair(pair) or not is_name(pair[0]) or not is_right(pair[1]):
            return at
        if at > 0 and pair[0] <= value[at - 1][0]:
            return at
    return None


def is_heap(value):
    return first_wrong(value, is_count) is None


def is_change(value):
    return first_wrong(value, is_shift) is None


def need_heap(value):
    at = first_wrong(value, is_count)
    if at is not None:
        raise InvalidHeap(at)


def need_change(value):
    at = first_wrong(value, is_shift)
    if at is not None:
        raise InvalidHeap(at)


def added_up(pairs):
    totals = {}
    for place, number in pairs:
        totals[place] = totals.get(place, 0) + number
    return tuple([(place, totals[place]) for place in sorted(totals) if totals[place] != 0])


def heap_of(pairs):
    return added_up(pairs)


def amount(heap, place):
    for name, number in heap:
        if name == place:
            return number
    return 0


def papers_in(heap):
    return sum([number for _, number in heap])


def joined(heaps):
    return added_up([pair for heap in heaps for pair in heap])


def times(heap, number):
    return added_up([(place, many * number) for place, many in heap])


def within(heap, other):
    there = dict(other)
    return all([number <= there.get(place, 0) for place, number in heap])


def taken_out(other, heap):
    return changed(other, change_times(heap, -1))


def common(heap, other):
    there = dict(other)
    return added_up([(place, min(number, there.get(place, 0))) for place, number in heap])


def over(heap, other):
    most = dict(other)
    for place, number in heap:
        most[place] = max(number, most.get(place, 0))
    return tuple([(place, most[place]) for place in sorted(most)])


def change_of(pairs):
    return added_up(pairs)


def gap(heap, other):
    return changes_joined((other, change_times(heap, -1)))


def changes_joined(changes):
    return added_up([pair for change in changes for pair in change])


def change_times(change, number):
    return added_up([(place, shift * number) for place, shift in change])


def changed(heap, change):
    behind = changes_joined((heap, change))
    if any([number < 0 for _, number in behind]):
        return None
    return behind


def halves(change):
    comes = tuple([(place, shift) for place, shift in change if shift > 0])
    goes = tuple([(place, -shift) for place, shift in change if shift < 0])
    return comes, goes
