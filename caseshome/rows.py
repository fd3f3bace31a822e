"""Whole-number sums of rows: their echelon form, and whether a target is such a sum."""

from math import gcd

from caseshome.basics import is_integer_row
from caseshome.fractions import fraction, is_fraction_row, is_whole, less, worth


def echelon(rows):
    form = {}
    for row in rows:
        put_in(form, tuple(row))
    return tuple([form[place] for place in sorted(form)])


def put_in(form, row):
    """Let the rows of a form, by their leading places, make one row more."""
    for place in range(len(row)):
        if row[place] == 0:
            continue
        if place not in form:
            form[place] = row if row[place] > 0 else scaled(row, -1)
            break
        row = put_together(form, place, row)
    tidy(form)


def put_together(form, place, row):
    """Let a form lead with the common divisor in a place; what is left of the row is 0 there."""
    head = form[place]
    part, times_head, times_row = divisor_of(head[place], row[place])
    if part != head[place]:
        form[place] = combined(head, times_head, row, times_row)
    return combined(row, head[place] // part, head, -(row[place] // part))


def divisor_of(one, other):
    """The greatest common divisor, and how many times the one and the other make it."""
    if other % one == 0:
        return one, 1, 0
    # Each of three neighbours is a divisor's candidate with the times of the one and of the other.
    ahead, now = (one, 1, 0), (other, 0, 1)
    while now[0] != 0:
        whole = ahead[0] // now[0]
        ahead, now = now, combined(ahead, 1, now, -whole)
    return ahead if ahead[0] > 0 else scaled(ahead, -1)


def scaled(row, number):
    return tuple([number * one for one in row])


def combined(row, times_row, other, times_other):
    return tuple([times_row * one + times_other * two for one, two in zip(row, other)])


def tidy(form):
    """Bring what stands above leading numbers below them."""
    places = sorted(form)
    for at in reversed(range(len(places))):
        row = form[places[at]]
        for place in places[at + 1:]:
            row = lowered(row, place, form[place])
        form[places[at]] = row


def lowered(row, place, head):
    """The row less as many times another one as brings it to 0 or more, below its number, in a place."""
    whole = row[place] // head[place]
    return row if whole == 0 else combined(row, 1, head, -whole)


def leading_place(row):
    """The first place that is not 0, None if the row is nought throughout."""
    for place, number in enumerate(row):
        if number != 0:
            return place
    return None


def is_echelon(rows):
    heads = []
    for row in rows:
        place = leading_place(row)
        if place is None or row[place] < 0 or (heads and place <= heads[-1]):
            return False
        heads.append(place)
    for at, place in enumerate(heads):
        if any([not 0 <= row[place] < rows[at][place] for row in rows[:at]]):
            return False
    return True


def width_of_rows(rows):
    return len(rows[0]) if rows else 0


def marked_form(rows):
    """The echelon form of the rows, behind each of which stands how many times it takes each of them."""
    many = len(rows)
    return echelon([tuple(row) + tuple([1 if k == at else 0 for k in range(many)]) for at, row in enumerate(rows)])


def turned_echelon(rows):
    width = width_of_rows(rows)
    return tuple([row[width:] for row in marked_form(rows) if leading_place(row) < width])


def balances(rows):
    width = width_of_rows(rows)
    return tuple([row[width:] for row in marked_form(rows) if leading_place(row) >= width])


def transposed(rows, width):
    return tuple([tuple([row[place] for row in rows]) for place in range(width)])


def rest_of(form, row):
    """What is left of a row when the rows of an echelon form are taken off it: nought if it is their sum."""
    for head in form:
        row = lowered(row, leading_place(head), head)
    return row


def sum_of(rows, target):
    width = len(target)
    rest = rest_of(marked_form(rows), tuple(target) + (0,) * len(rows))
    if leading_place(rest[:width]) is not None:
        return None
    return scaled(rest[width:], -1)


def bar_of(rows, target):
    form = echelon(rows)
    place, part = fault_of(form, target)
    if place is None:
        return None
    bar = [(0, 1)] * len(target)
    bar[place] = part
    # Upward: each row gets a whole worth by its leading place; those behind the fault have none of the places.
    for row in reversed(form):
        head = leading_place(row)
        if head < place:
            bar[head] = without_whole(less((0, 1), worth(bar, row)), row[head])
    return tuple(bar)


def without_whole(one, number):
    """The fraction divided by a number, less an integer."""
    top, bottom = fraction(one[0], one[1] * number)
    return top % bottom, bottom


def fault_of(form, target):
    """The first place in which the target is no sum, and a fraction by which it is not whole there; None, None."""
    heads = {leading_place(row): row for row in form}
    rest = target
    for place in range(len(target)):
        if place in heads:
            rest = lowered(rest, place, heads[place])
        if rest[place] != 0:
            return place, fraction(1, heads[place][place] if place in heads else 2 * rest[place])
    return None, None


def check_sum(rows, target, value):
    if not is_integer_row(value, len(rows)):
        return False
    return made_of(rows, value, len(target)) == tuple(target)


def made_of(rows, numbers, width):
    return tuple([sum([number * row[place] for number, row in zip(numbers, rows)]) for place in range(width)])


def check_bar(rows, target, value):
    if not is_fraction_row(value, len(target)) or is_whole(worth(value, target)):
        return False
    return all([is_whole(worth(value, row)) for row in rows])


def order_of(rows, target):
    number = 1
    rest = target
    for row in echelon(rows):
        place = leading_place(row)
        more = row[place] // gcd(row[place], rest[place])
        number = number * more
        rest = lowered(scaled(rest, more), place, row)
    return number if leading_place(rest) is None else None
