"""Fractions: pairs (top, bottom) of integers in their lowest terms, the bottom from 1 on."""

from math import gcd

from caseshome.basics import is_integer, is_pair


def is_fraction(value):
    if not is_pair(value) or not is_integer(value[0]) or not is_integer(value[1]):
        return False
    return value[1] >= 1 and gcd(value[0], value[1]) == 1


def is_fraction_row(value, length):
    if not isinstance(value, tuple) or len(value) != length:
        return False
    return all([is_fraction(one) for one in value])


def fraction(top, bottom):
    part = gcd(top, bottom)
    if bottom < 0:
        part = -part
    return top // part, bottom // part


def added(one, other):
    return fraction(one[0] * other[1] + other[0] * one[1], one[1] * other[1])


def less(one, other):
    return fraction(one[0] * other[1] - other[0] * one[1], one[1] * other[1])


def multiplied(one, other):
    return fraction(one[0] * other[0], one[1] * other[1])


def divided(one, other):
    return fraction(one[0] * other[1], one[1] * other[0])


def compared(one, other):
    here, there = one[0] * other[1], other[0] * one[1]
    if here == there:
        return 0
    return -1 if here < there else 1


def worth(fractions, numbers):
    bottom = bottom_of(fractions)
    tops = whole_times(fractions, bottom)
    return fraction(sum([top * number for top, number in zip(tops, numbers)]), bottom)


def is_whole(one):
    return one[1] == 1


def floor_of(one):
    return one[0] // one[1]


def bottom_of(fractions):
    bottom = 1
    for one in fractions:
        bottom = bottom // gcd(bottom, one[1]) * one[1]
    return bottom


def whole_times(fractions, number):
    """So many times each, as integers: the number makes all of them whole."""
    return [top * (number // bottom) for top, bottom in fractions]
