"""What a deed of a house is by itself: a word and the things that belong to it."""

from caseshome.basics import is_count, is_name, is_name_lot, is_number, is_pair
from caseshome.errors import InvalidDeed
from caseshome.heaps import is_heap
from caseshome.plans import Plan

# The kinds of the things behind each word.
KINDS = {
    "plan": ("name", "plan"),
    "crew": ("name", "name", "lot"),
    "edition": ("name", "name", "name", "carry"),
    "floor": ("name", "name"),
    "put": ("name", "count"),
    "step": ("name", "name", "run"),
    "off": ("name", "heap"),
    "carry": ("name", "name"),
    "lay": ("name", "number", "heap"),
    "end": ("name", "name"),
    "drop": ("name",),
    "batch": ("deeds",),
    "undo": (),
    "redo": (),
}
# These do not stand in a batch.
ALONE = ("batch", "undo", "redo")


def need_deed(value):
    at = first_wrong_place(value)
    if at is not None:
        raise InvalidDeed(at)


def is_deed(value):
    return first_wrong_place(value) is None


def first_wrong_place(value):
    """The first place whose thing is wrong, lacks or is too many, -1 where there is no word, None for a deed."""
    if not isinstance(value, tuple) or value == () or not isinstance(value[0], str) or value[0] not in KINDS:
        return -1
    kinds = KINDS[value[0]]
    for at, kind in enumerate(kinds):
        if at + 1 == len(value) or not is_of_kind(kind, value[at + 1]):
            return at + 1
    return None if len(value) == len(kinds) + 1 else len(kinds) + 1


def is_of_kind(kind, value):
    if kind == "name":
        return is_name(value)
    if kind == "plan":
        return isinstance(value, Plan)
    if kind == "lot":
        return is_name_lot(value)
    if kind == "count":
        return is_count(value)
    if kind == "number":
        return is_number(value)
    if kind == "heap":
        return is_heap(value)
    if kind == "run":
        return are_named(value, is_count)
    if kind == "carry":
        return are_named(value, is_heap)
    return isinstance(value, tuple) and all([is_single(part) for part in value])


def are_named(value, is_right):
    """Whether it is a tuple of pairs of a name and something right."""
    if not isinstance(value, tuple):
        return False
    return all([is_pair(pair) and is_name(pair[0]) and is_right(pair[1]) for pair in value])


def is_single(value):
    """Whether it is a deed that may stand in a batch."""
    # The word goes first, so that batches in batches are not gone through.
    return isinstance(value, tuple) and value != () and value[0] not in ALONE and is_deed(value)
