"""Numbers, texts, frames and deeds as octets, and houses opened on them."""

from caseshome.commands import deed_line, read_deed
from caseshome.errors import InvalidCommand
from caseshome.house import House

# The signs by their codes, from 32 on; at the place of 37, which is no sign's code here, stands a second blank.
SIGNS = (" !\"#$ &'()*+,-./0123456789:;<=>?@ABCDEFGHIJKLMNOPQRSTUVWXYZ"
         "[\\]^_`abcdefghijklmnopqrstuvwxyz{|}~")
FIRST_CODE = 32
BARRED_CODE = 37
NEWLINE_CODE = 10
SUM_BASE = 65521
# Great numbers are taken apart, and put together, by so many figures of 7 bits at once.
MANY_FIGURES = 64
MANY_BITS = 448


def number_octets(number):
    left = max(1, -(-number.bit_length() // 7))
    figures = []
    while left > 0:
        part = number & ((1 << MANY_BITS) - 1)
        number = number >> MANY_BITS
        figures.extend([(part >> (7 * k)) & 127 for k in range(min(left, MANY_FIGURES))])
        left = left - MANY_FIGURES
    return (*[figure + 128 for figure in figures[:-1]], figures[-1])


def number_of_figures(figures):
    number = 0
    for at in reversed(list(range(0, len(figures), MANY_FIGURES))):
        part = 0
        for figure in reversed(figures[at:at + MANY_FIGURES]):
            part = part * 128 + figure
        number = (number << MANY_BITS) + part
    return number


def read_number(octets, at):
    if not 0 <= at < len(octets):
        return None
    last = at
    while last < len(octets) and octets[last] >= 128:
        last = last + 1
    if last == len(octets) or (octets[last] == 0 and last > at):
        return None
    return number_of_figures([octet & 127 for octet in octets[at:last + 1]]), last + 1


def text_octets(text):
    return (*number_octets(len(text)), *[ord(sign) for sign in text])


def sign_of(code):
    """The sign of a code, None for a code that no sign of a text has."""
    if code == NEWLINE_CODE:
        return "\n"
    if code == BARRED_CODE or not 0 <= code - FIRST_CODE < len(SIGNS):
        return None
    return SIGNS[code - FIRST_CODE]


def read_text(octets, at):
    found = read_number(octets, at)
    if found is None:
        return None
    many, start = found
    codes = octets[start:start + many]
    signs = [sign_of(code) for code in codes]
    if len(codes) < many or None in signs:
        return None
    return "".join(signs), start + many


def sum_of_octets(octets):
    return sum([octet * (at + 1) for at, octet in enumerate(octets)]) % SUM_BASE


def frame(body):
    total = sum_of_octets(body)
    return (*number_octets(len(body)), *body, total & 255, total >> 8)


def frame_at(octets, at):
    """The pair of the body of the frame that stands there and the place behind it, None if none does."""
    found = read_number(octets, at)
    if found is None or found[0] + 2 > len(octets) - found[1]:
        return None
    many, start = found
    body = tuple(octets[start:start + many])
    low, high = octets[start + many:start + many + 2]
    return (body, start + many + 2) if sum_of_octets(body) == low + 256 * high else None


def frames(octets):
    bodies = []
    at = 0
    found = frame_at(octets, at)
    while found is not None:
        body, at = found
        bodies.append(body)
        found = frame_at(octets, at)
    return tuple(bodies), at


def deed_octets(deed):
    return text_octets(deed_line(deed))


def deed_of_octets(body):
    """The deed whose octets these are, None if they are no deed's."""
    found = read_text(body, 0)
    if found is None or found[1] < len(body):
        return None
    try:
        return read_deed(found[0])
    except InvalidCommand:
        return None


def log_of(house):
    return tuple([octet for deed in house.deeds() for octet in frame(deed_octets(deed))])


def opened(octets, most):
    house = House(most)
    at = 0
    further = done_at(house, octets, at)
    while further is not None:
        at = further
        further = done_at(house, octets, at)
    return house, at


def done_at(house, octets, at):
    """Let a house do the deed of the frame that stands there; the place behind it, None if none is done."""
    found = frame_at(octets, at)
    if found is None:
        return None
    deed = deed_of_octets(found[0])
    return None if deed is None or house.do(deed) != "done" else found[1]
