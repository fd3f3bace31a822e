"""Whole-number sums, worked out by the tests themselves."""

from fractions import Fraction
from math import gcd


def form_by_hand(rows):
    """The echelon form, by taking the row with the least leading number off the others again and again."""
    left = [list(row) for row in rows if any(row)]
    width = len(rows[0]) if rows else 0
    form = []
    for place in range(width):
        while True:
            heads = sorted((row for row in left if row[place]), key=lambda row: abs(row[place]))
            if len(heads) < 2:
                break
            for row in heads[1:]:
                times = row[place] // heads[0][place]
                for k in range(width):
                    row[k] -= times * heads[0][k]
        if heads:
            head = heads[0]
            left = [row for row in left if row is not head and any(row)]
            if head[place] < 0:
                head[:] = [-number for number in head]
            for row in form:
                times = row[place] // head[place]
                for k in range(width):
                    row[k] -= times * head[k]
            form.append(head)
    return tuple(tuple(row) for row in form)


def rest_by_hand(form, row):
    row = list(row)
    for head in form:
        place = next(k for k, number in enumerate(head) if number)
        times = row[place] // head[place]
        row = [one - times * two for one, two in zip(row, head)]
    return tuple(row)


def is_sum_by_hand(form, row):
    return not any(rest_by_hand(form, row))


def rank_by_hand(rows):
    left = [[Fraction(number) for number in row] for row in rows]
    rank = 0
    for place in range(len(rows[0]) if rows else 0):
        at = next((k for k in range(rank, len(left)) if left[k][place]), None)
        if at is not None:
            left[rank], left[at] = left[at], left[rank]
            for k in range(rank + 1, len(left)):
                part = left[k][place] / left[rank][place]
                left[k] = [one - part * two for one, two in zip(left[k], left[rank])]
            rank += 1
    return rank


def made(rows, numbers, width):
    return tuple(sum(number * row[k] for number, row in zip(numbers, rows)) for k in range(width))


def is_fraction_by_hand(value):
    return (type(value) is tuple and len(value) == 2 and type(value[0]) is int and type(value[1]) is int
            and value[1] >= 1 and gcd(*value) == 1)


def worth_by_hand(fractions, numbers):
    return sum((Fraction(*one) * number for one, number in zip(fractions, numbers)), Fraction(0))


def pair(one):
    """A Fraction as a fraction of the package."""
    return one.numerator, one.denominator
