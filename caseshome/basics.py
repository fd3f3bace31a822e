"""What any value is asked first: whether it is an integer, a name, a pair."""

LETTERS = "abcdefghijklmnopqrstuvwxyz"
LONGEST_NAME = 8


def is_integer(value):
    return isinstance(value, int) and not isinstance(value, bool)


def is_number(value):
    return is_integer(value) and value >= 0


def is_count(value):
    return is_integer(value) and value >= 1


def is_shift(value):
    return is_integer(value) and value != 0


def is_name(value):
    if not isinstance(value, str) or not 1 <= len(value) <= LONGEST_NAME:
        return False
    return all([letter in LETTERS for letter in value])


def is_pair(value):
    return isinstance(value, tuple) and len(value) == 2


def is_integer_row(value, length):
    if not isinstance(value, tuple) or len(value) != length:
        return False
    return all([is_integer(number) for number in value])
