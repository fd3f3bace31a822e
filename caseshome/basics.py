"""What any value is asked first: whether it is an integer, a name, a pair."""

LETTERS = "abcdefghijklmnopqrstuvwxyz"
LONGEST_NAME = 8
DIGITS = "0123456789"
# So many figures of a number are told, or read, at once.
PIECE = 64


def is_integer(value):
    return isinstance(value, int) and not isinstance(value, bool)


def is_number(value):
    return is_integer(value) and value >= 0


def is_count(value):
    return is_integer(value) and value >= 1


def is_shift(value):
    return is_integer(value) and value != 0


def is_name(value):
    if not isinstance(value, str) or not 1 <= len(value) <= LONGEST_NAME:
        return False
    return all([letter in LETTERS for letter in value])


def is_name_lot(value):
    """Whether it is an ascending tuple of names."""
    if not isinstance(value, tuple):
        return False
    for at, name in enumerate(value):
        if not is_name(name) or (at > 0 and name <= value[at - 1]):
            return False
    return True


def is_pair(value):
    return isinstance(value, tuple) and len(value) == 2


def is_integer_row(value, length):
    if not isinstance(value, tuple) or len(value) != length:
        return False
    return all([is_integer(number) for number in value])


def is_digits(text):
    return text != "" and all([sign in DIGITS for sign in text])


def number_text(number):
    """The figures of a number, piece by piece: Python itself refuses to tell many thousands of them at once."""
    pieces = []
    while number >= 10 ** 64:
        pieces.append(str(number % 10 ** 64).zfill(PIECE))
        number = number // 10 ** 64
    pieces.append(str(number))
    return "".join(pieces[::-1])


def number_of(digits):
    """The number of a row of figures, piece by piece likewise."""
    first = len(digits) % PIECE
    number = int(digits[:first]) if first > 0 else 0
    for at in range(first, len(digits), PIECE):
        number = number * 10 ** 64 + int(digits[at:at + PIECE])
    return number
