"""The least heaps of a plan with kept weights, by lists of single beginnings."""

from heapq import heappop, heappush

from caseshome.basics import is_integer_row
from caseshome.errors import Refused
from caseshome.lattice import lattice, pair_at
from caseshome.rows import leading_place, lowered
from caseshome.weights import kept_weights


def least_heaps(plan):
    return heaps_in(plan, least_lists(plan))


def heaps_in(plan, lists):
    """The pairs (cases, heap) of the last of the lists of single beginnings, ascending."""
    # All rows of the last list are nowhere below 0: by the kept weights what has papers has cases.
    return tuple(sorted([pair_at(plan, row) for row in lists[-1]]))


def width_of(plan):
    return max([len(rows) for rows in least_lists(plan)])


def need_weights(plan):
    if kept_weights(plan) is None:
        raise Refused("weights")


def least_lists(plan):
    need_weights(plan)
    return single_lists(plan)


def single_lists(plan):
    """The lists of single beginnings of a plan with kept weights."""
    form = lattice(plan)
    found = []
    ahead = ()
    for place in range(len(plan.places) + 1):
        rows = single_rows(form, place, ahead)
        found.append(tuple(sorted(rows)))
        ahead = risen(rows)
    return tuple(found)


def risen(rows):
    """Those that are nowhere below 0."""
    return [row for row in rows if row[-1] >= 0]


def single_rows(form, place, ahead):
    """The single beginnings that end with a place, by those of the list before that are nowhere below 0.

    Candidates are gone through by what they have ahead of the place: so whatever lies within one, but itself, was
    gone through before it, and each one that is kept is single.
    """
    queue = []
    for row in [*first_rows(form, place), *[longer(form, row) for row in ahead]]:
        heappush(queue, (sum(row[:-1]), row))
    found = []
    while queue:
        row = heappop(queue)[1]
        if leading_place(row) is None or has_within(found, row):
            continue
        for other in found:
            if row[-1] * other[-1] < 0:
                both = added_rows(row, other)
                heappush(queue, (sum(both[:-1]), both))
        found.append(row)
    return found


def first_rows(form, place):
    """The least rows above and below 0 in a place with noughts alone ahead of it, none if there are none."""
    noughts = (0,) * place
    return [noughts + (sign * row[place],) for row in form for sign in (1, -1) if leading_place(row) == place]


def longer(form, row):
    """A beginning that goes on with the row, one place further."""
    place = len(row)
    rest = row + (0,)
    for head in form:
        if leading_place(head) <= place:
            rest = lowered(rest, leading_place(head), head[:place + 1])
    # What was taken off in the new place is what the sum has there; ahead of it nothing is left.
    return row + (-rest[place],)


def added_rows(row, other):
    return tuple([one + two for one, two in zip(row, other)])


def has_within(rows, row):
    for other in rows:
        if lies_within(other, row):
            return True
    return False


def lies_within(row, other):
    """Whether a row lies within another one, at the last coordinate by its size and with no unlike sign."""
    if row[-1] * other[-1] < 0 or abs(row[-1]) > abs(other[-1]):
        return False
    for k in range(len(row) - 1):
        if row[k] > other[k]:
            return False
    return True


def check_lists(plan, value):
    return kept_weights(plan) is not None and are_lists(plan, value)


def are_lists(plan, value):
    """Whether it has the lists of a plan with kept weights."""
    if not isinstance(value, tuple) or len(value) != len(plan.places) + 1:
        return False
    form = lattice(plan)
    ahead = ()
    for place, rows in enumerate(value):
        if not is_open_list(form, place, rows) or not has_singles(form, place, ahead, rows):
            return False
        ahead = risen(rows)
    return True


def is_open_list(form, place, rows):
    """Whether it is an ascending tuple of open beginnings that end with a place."""
    if not isinstance(rows, tuple):
        return False
    for at, row in enumerate(rows):
        if not is_integer_row(row, place + 1) or (at > 0 and row <= rows[at - 1]):
            return False
        if leading_place(row) is None or any([number < 0 for number in row[:-1]]) or not begins(form, row):
            return False
    return True


def begins(form, row):
    """Whether the rows of the form have a sum that begins so."""
    for head in form:
        place = leading_place(head)
        if place < len(row):
            row = lowered(row, place, head[:len(row)])
    return leading_place(row) is None


def has_singles(form, place, ahead, rows):
    """Whether all single beginnings are in a list of open ones, by [30]."""
    if any([row not in rows for row in first_rows(form, place)]):
        return False
    if any([not goes_off(rows, longer(form, row)) for row in ahead]):
        return False
    below = [row for row in rows if row[-1] < 0]
    above = [row for row in rows if row[-1] > 0]
    for row in below:
        for other in above:
            if not goes_off(rows, added_rows(row, other)):
                return False
    return True


def single_among(rows):
    """Those of a last list that have no other one within them: just the single ones, if all of these are there."""
    return [row for row in rows if not has_within([other for other in rows if other != row], row)]


def goes_off(rows, row):
    """Whether nothing is left of a row when each of the others is taken off it as often as it lies within."""
    for other in rows:
        if lies_within(other, row):
            row = less_often(row, other)
    return leading_place(row) is None


def less_often(row, other):
    times = min([abs(one) // abs(two) for one, two in zip(row, other) if two != 0])
    return tuple([one - times * two for one, two in zip(row, other)])
