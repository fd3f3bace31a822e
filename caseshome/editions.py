"""Editions: whether the running cases of a plan can go on in another one, at any moment."""

from caseshome.basics import is_pair
from caseshome.closure import comeable, live_steps
from caseshome.court import Sure, Unsure, Wide, are_endings, first_not_led, is_belonging, need_whole
from caseshome.errors import InvalidCarry, Refused
from caseshome.heaps import joined, times
from caseshome.lattice import barred, belongs, check_barred, check_made, made_by
from caseshome.lists import least_heaps
from caseshome.plans import need_steps_named, step_change
from caseshome.walks import Lost, check_led, ends_of, is_heap_of, need_crew_weights, starts_of
from caseshome.weights import kept_weights


class Edition:
    def __init__(self, sums):
        self.sums = sums

    def __eq__(self, other):
        return isinstance(other, Edition) and self.sums == other.sums


class NoEdition:
    def __init__(self, word, fractions):
        self.word = word
        self.fractions = fractions

    def __eq__(self, other):
        return isinstance(other, NoEdition) and self.word == other.word and self.fractions == other.fractions


def need_carry(old, new, value):
    at = first_not_carried(old, new, value)
    if at is not None:
        raise InvalidCarry(at)


def is_carry(old, new, value):
    return first_not_carried(old, new, value) is None


def first_not_carried(old, new, value):
    """The number of the first thing that is no right pair or lacks, -1 for no tuple, None if it is a carry."""
    if not isinstance(value, tuple):
        return -1
    for at, pair in enumerate(value):
        if at >= len(old.places) or not is_carried_place(old, new, old.places[at], pair):
            return at
    return len(value) if len(value) < len(old.places) else None


def is_carried_place(old, new, place, pair):
    if not is_pair(pair) or pair[0] != place or not is_heap_of(new, pair[1]):
        return False
    return place != old.end or pair[1] == ends_of(new, 1)


def carried(carry, heap):
    """What all papers of a heap, or of a change, are carried to."""
    heaps = dict(carry)
    return joined([times(heaps[place], number) for place, number in heap])


def carry_behind(first, second):
    return tuple([(place, carried(second, heap)) for place, heap in first])


def same_carry(plan):
    return tuple([(place, ((place, 1),)) for place in plan.places])


def is_living(new, carry):
    here = comeable(new)
    return all([place in here for _, heap in carry for place, _ in heap])


def need_whole_and_living(new, carry, most):
    need_whole(new, most)
    if not is_living(new, carry):
        raise Refused("living")


def dues(old, carry):
    """What the new plan has to make: the triples (word, cases, change) of the start and of all live steps."""
    found = [("", 1, carried(carry, starts_of(old, 1)))]
    for name in live_steps(old):
        found.append((name, 0, carried(carry, step_change(old, name))))
    return found


def edition(old, new, carry, most):
    need_whole_and_living(new, carry, most)
    return edition_into(old, new, carry)


def edition_into(old, new, carry):
    """What is told of a living carry into a whole plan."""
    sums = []
    for word, cases, change in dues(old, carry):
        made = made_by(new, cases, change)
        if made is None:
            return NoEdition(word, barred(new, cases, change))
        sums.append((word, made))
    return Edition(tuple(sums))


def check_edition(old, new, carry, value):
    due = dues(old, carry)
    if isinstance(value, Edition):
        return are_sums(new, due, value.sums)
    if not isinstance(value, NoEdition) or not isinstance(value.word, str):
        return False
    for word, cases, change in due:
        if word == value.word:
            return check_barred(new, cases, change, value.fractions)
    return False


def are_sums(new, due, value):
    """Whether a value has the pair (word, sum that makes it) of each thing that is due, in order."""
    if not isinstance(value, tuple) or len(value) != len(due):
        return False
    for (word, cases, change), pair in zip(due, value):
        if not is_pair(pair) or pair[0] != word or not check_made(new, cases, change, pair[1]):
            return False
    return True


def can_carry(old, new, carry, cases, heap, most):
    need_whole_and_living(new, carry, most)
    if not belongs(old, cases, heap):
        raise Refused("belongs")
    return belongs(new, cases, carried(carry, heap))


def carried_pairs(carry, pairs):
    return [(cases, carried(carry, heap)) for cases, heap in pairs]


def once(old, new, carry, crew, most):
    need_steps_named(new, crew)
    need_whole(old, most)
    need_crew_weights(new, crew)
    pairs = least_heaps(old)
    endings, at, lot = first_not_led(new, crew, carried_pairs(carry, pairs), most)
    if at is None:
        return Sure(endings)
    cases, heap = pairs[at]
    return Wide(cases, heap) if lot is None else Unsure(cases, heap, lot)


def check_once(old, new, carry, crew, value):
    need_steps_named(new, crew)
    if kept_weights(old) is None:
        return False
    if isinstance(value, Sure):
        return are_endings(new, crew, carried_pairs(carry, least_heaps(old)), value.endings)
    if not isinstance(value, Unsure) or not is_belonging(old, value.cases, value.heap):
        return False
    return check_led(new, crew, value.cases, carried(carry, value.heap), Lost(value.lot))
