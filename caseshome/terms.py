"""Terms: plans put together out of steps, rows, branches, forks and rings, with texts of their own."""

from caseshome.basics import LETTERS, LONGEST_NAME, is_name
from caseshome.closure import live_steps
from caseshome.errors import InvalidTerm, InvalidText
from caseshome.heaps import joined
from caseshome.plans import Plan
from caseshome.walks import Walk, ends_of, starts_of


def is_shaped(value):
    """Whether it is a term by itself, whatever stands in the place of the terms within it."""
    if not isinstance(value, tuple) or len(value) < 2 or not isinstance(value[0], str):
        return False
    word = value[0]
    if word == "step":
        return len(value) == 2 and is_name(value[1])
    if word in ("row", "either"):
        return len(value) == 2 and are_terms(value[1])
    if word == "beside":
        return len(value) == 4 and is_name(value[1]) and is_name(value[2]) and are_terms(value[3])
    return word == "again" and len(value) == 5 and all([is_name(name) for name in value[1:4]])


def are_terms(value):
    return isinstance(value, tuple) and len(value) >= 2


def names_in(term):
    """The names of the steps of a term itself, in order."""
    return term[1:] if term[0] == "step" else term[1:-1]


def terms_in(term):
    """The terms that stand directly within a term."""
    if term[0] == "step":
        return ()
    return (term[-1],) if term[0] == "again" else term[-1]


def need_term(value):
    names = {}
    repeated = None
    left = [((), value)]
    while left:
        place, term = left.pop()
        if not is_shaped(term):
            raise InvalidTerm(place)
        for name in names_in(term):
            if name in names and repeated is None:
                repeated = place
            names[name] = True
        inner = [(place + (k,), part) for k, part in enumerate(terms_in(term))]
        left.extend(inner[::-1])
    if repeated is not None:
        raise InvalidTerm(repeated)


class Names:
    """Names of places in the order of their numbers."""

    def __init__(self):
        self.many = 0

    def further(self, many):
        self.many = self.many + many
        return [place_name(number) for number in range(self.many - many, self.many)]


def place_name(number):
    """The figures of a number to the base 26, written by letters."""
    name = LETTERS[number % len(LETTERS)]
    while number >= len(LETTERS):
        number = number // len(LETTERS)
        name = LETTERS[number % len(LETTERS)] + name
    return name


class Placed:
    """A term with its start and its end, the places that it names itself, and the terms within it likewise."""

    def __init__(self, term, start, end, names):
        parts = terms_in(term)
        self.term = term
        self.start = start
        self.end = end
        if term[0] == "row":
            self.own = names.further(len(parts) - 1)
            gates = [start, *self.own, end]
            doors = list(zip(gates, gates[1:]))
        elif term[0] in ("beside", "again"):
            self.own = names.further(2 * len(parts))
            doors = list(zip(self.own[::2], self.own[1::2]))
        else:
            self.own = []
            doors = [(start, end)] * len(parts)
        self.parts = [Placed(part, enter, leave, names) for part, (enter, leave) in zip(parts, doors)]


def placed(term):
    """The term with all its places, and how many they are."""
    names = Names()
    start, end = names.further(2)
    return Placed(term, start, end, names), names.many


def one_each(places):
    return tuple([(place, 1) for place in sorted(places)])


def own_steps(node):
    """The steps of a term itself."""
    names = names_in(node.term)
    start, end = one_each([node.start]), one_each([node.end])
    enters, leaves = one_each([part.start for part in node.parts]), one_each([part.end for part in node.parts])
    if node.term[0] == "step":
        return [(names[0], start, end)]
    if node.term[0] == "beside":
        return [(names[0], start, enters), (names[1], leaves, end)]
    if node.term[0] == "again":
        return [(names[0], start, enters), (names[1], leaves, enters), (names[2], leaves, end)]
    return []


def all_steps(node):
    return [*own_steps(node), *[step for part in node.parts for step in all_steps(part)]]


def plan_of(term):
    node, many = placed(term)
    places = sorted([place_name(number) for number in range(many)])
    return Plan(tuple(places), tuple(sorted(all_steps(node))), node.start, node.end)


def heaps_within(node):
    """The heaps of one case that is neither at the start nor at the end of a term, but within it."""
    if node.term[0] != "beside":
        own = [one_each([place]) for place in node.own]
        return [*own, *[heap for part in node.parts for heap in heaps_within(part)]]
    found = [()]
    for part in node.parts:
        states = heaps_at(part)
        found = [joined((heap, more)) for heap in found for more in states]
    return found


def heaps_at(node):
    """All heaps of one case that is in a term."""
    return [one_each([node.start]), one_each([node.end]), *heaps_within(node)]


def term_heaps(term):
    return tuple(sorted([(1, heap) for heap in heaps_at(placed(term)[0])]))


def many_heaps(node):
    """How many heaps of one case that is in a term there are."""
    numbers = [many_heaps(part) for part in node.parts]
    if node.term[0] != "beside":
        return 2 + len(node.own) + sum([number - 2 for number in numbers])
    number = 1
    for many in numbers:
        number = number * many
    return 2 + number


def shape_numbers(term):
    node, many = placed(term)
    return many, len(all_steps(node)), many_heaps(node)


def runs_of(term, most):
    plan = plan_of(term)
    # One case of a whole plan whose least heaps have one case each comes to these alone.
    walk = Walk(plan, live_steps(plan), starts_of(plan, 1), shape_numbers(term)[2])
    goal = walk.number_of(ends_of(plan, 1))
    left = walk.costs_to(goal, {step[0]: 0 for step in plan.steps})
    found = []
    level = [((), 0)]
    for done in range(most + 1):
        level = [(run, at) for run, at in level if done + left[at][1] <= most]
        found.extend([run for run, at in level if at == goal])
        level = [(run + (name,), to) for run, at in level for name, to in walk.ways[at]]
    return tuple(sorted(found))


def term_text(term):
    word = term[0]
    if word == "step":
        return term[1]
    texts = [term_text(part) for part in terms_in(term)]
    if word == "again":
        return f"{term[1]}({texts[0]} ^ {term[2]}){term[3]}"
    if word == "beside":
        return term[1] + "(" + " & ".join(texts) + ")" + term[2]
    between = "; " if word == "row" else " | "
    return "(" + between.join(texts) + ")"


def read_term(text):
    if not isinstance(text, str):
        raise InvalidText(-1)
    term, at = term_at(text, 0)
    if at < len(text):
        raise InvalidText(at)
    need_term(term)
    return term


def sign_at(text, at):
    """The sign of a number, the empty string behind the end."""
    return text[at:at + 1]


def behind_signs(text, at, signs):
    """The place behind signs that have to stand there."""
    for k, sign in enumerate(signs):
        if sign_at(text, at + k) != sign:
            raise InvalidText(at + k)
    return at + len(signs)


def name_at(text, at):
    """The longest name that stands there, and the place behind it."""
    end = at
    while end < at + LONGEST_NAME and end < len(text) and text[end] in LETTERS:
        end = end + 1
    if end == at:
        raise InvalidText(at)
    return text[at:end], end


def term_at(text, at):
    """The term whose text begins there, and the place behind it."""
    name = ""
    if sign_at(text, at) != "(":
        name, at = name_at(text, at)
    if sign_at(text, at) != "(":
        return ("step", name), at
    first, at = term_at(text, at + 1)
    if name == "":
        word, between = ("row", "; ") if sign_at(text, at) == ";" else ("either", " | ")
        terms, at = further_terms(text, at, between, first)
        return (word, terms), at + 1
    if text[at:at + 2] == " ^":
        back, at = name_at(text, behind_signs(text, at, " ^ "))
        leave, at = name_at(text, behind_signs(text, at, ")"))
        return ("again", name, back, leave, first), at
    terms, at = further_terms(text, at, " & ", first)
    join, at = name_at(text, at + 1)
    return ("beside", name, join, terms), at


def further_terms(text, at, between, first):
    """All terms of a bracket behind the first one, up to the closing sign, and its place."""
    terms = [first]
    while len(terms) == 1 or sign_at(text, at) != ")":
        term, at = term_at(text, behind_signs(text, at, between))
        terms.append(term)
    return tuple(terms), at
