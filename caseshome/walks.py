"""What a crew leads where: all heaps that come, the shortest runs and the cheapest ones."""

from heapq import heappop, heappush

from caseshome.basics import is_count, is_number, is_pair
from caseshome.errors import Refused
from caseshome.heaps import is_heap, times
from caseshome.plans import MOST_PAPERS, names_of, need_steps_named, step_change, step_of
from caseshome.runs import folded, leads
from caseshome.weights import crew_weights


class Led:
    def __init__(self, run):
        self.run = run

    def __eq__(self, other):
        return isinstance(other, Led) and self.run == other.run


class Lost:
    def __init__(self, lot):
        self.lot = lot

    def __eq__(self, other):
        return isinstance(other, Lost) and self.lot == other.lot


class Fields:
    """Heaps of a plan as integers, their codes, with a field of bits for each place, and what a crew does to them.

    The highest bit of a field stays free of papers: set ahead of taking papers out, it is borrowed exactly if they
    are not there. So a look at these bits tells what lies within what, and a step is a sum.
    """

    def __init__(self, plan, crew, greatest):
        self.places = plan.places
        # A step takes and lays no more than this in a place, so each field has room for that, too.
        self.bits = (greatest + MOST_PAPERS).bit_length() + 1
        self.offsets = {place: self.bits * k for k, place in enumerate(plan.places)}
        self.guards = self.guards_of(plan.places)
        self.moves = [self.move_of(plan, name) for name in crew]

    def guards_of(self, places):
        return sum([1 << (self.offsets[place] + self.bits - 1) for place in places])

    def move_of(self, plan, name):
        take = step_of(plan, name)[1]
        guards = self.guards_of([place for place, _ in take])
        return name, guards, self.code_of(take), self.code_of(step_change(plan, name))

    def has_room(self, heap):
        return all([number < 1 << (self.bits - 1) for _, number in heap])

    def code_of(self, heap):
        return sum([number << self.offsets[place] for place, number in heap])

    def heap_of_code(self, code):
        field = (1 << self.bits) - 1
        pairs = [(place, (code >> self.offsets[place]) & field) for place in self.places]
        return tuple([pair for pair in pairs if pair[1] > 0])

    def holds(self, code, other):
        """Whether the other one lies within it."""
        return ((code | self.guards) - other) & self.guards == self.guards

    def ways_from(self, code):
        """The pairs of the steps that can be done and the codes behind them."""
        return [(name, code + shift) for name, guards, take, shift in self.moves
                if ((code | guards) - take) & guards == guards]


class Walk:
    """All heaps that a heap leads to by a crew, those of shorter runs first, and the ways from each to others.

    They are numbered in the order of the first of their shortest runs. As soon as they are more than `most` no more
    are looked for, and `is_wide` is True.
    """

    def __init__(self, plan, crew, heap, most):
        greatest = max([0, *[number for _, number in heap]])
        # No shortest run to any of them has more steps than this many.
        self.fields = Fields(plan, crew, greatest + MOST_PAPERS * most)
        self.codes = [self.fields.code_of(heap)]
        self.numbers = {self.codes[0]: 0}
        self.origins = [None]
        self.ways = []
        while len(self.ways) < len(self.codes) <= most:
            self.go_on()
        self.is_wide = len(self.codes) > most

    def go_on(self):
        """Put what the next heap leads to behind all others, where it is new."""
        at = len(self.ways)
        ways = self.fields.ways_from(self.codes[at])
        for name, code in ways:
            if code not in self.numbers:
                self.numbers[code] = len(self.codes)
                self.codes.append(code)
                self.origins.append((at, name))
        self.ways.append([(name, self.numbers[code]) for name, code in ways])

    def heap_at(self, number):
        return self.fields.heap_of_code(self.codes[number])

    def all_heaps(self):
        return tuple(sorted([self.fields.heap_of_code(code) for code in self.codes]))

    def number_of(self, heap):
        """The number of a heap, None if it is not there."""
        if not self.fields.has_room(heap):
            return None
        return self.numbers.get(self.fields.code_of(heap))

    def run_to(self, number):
        names = []
        while self.origins[number] is not None:
            number, name = self.origins[number]
            names.append(name)
        return tuple(names[::-1])

    def led_to(self, goal):
        """Led with the first of the shortest runs to a heap, else Lost with all that comes."""
        number = self.number_of(goal)
        return Lost(self.all_heaps()) if number is None else Led(self.run_to(number))

    def costs_to(self, goal, costs):
        """For each number that leads to a number: the least cost, and how many steps it takes at this cost."""
        origins = [[] for _ in self.codes]
        for at, ways in enumerate(self.ways):
            for name, to in ways:
                origins[to].append((at, costs[name]))
        found = {}
        queue = [(0, 0, goal)]
        while queue:
            cost, steps, to = heappop(queue)
            if to in found:
                continue
            found[to] = (cost, steps)
            for at, more in origins[to]:
                if at not in found:
                    heappush(queue, (cost + more, steps + 1, at))
        return found

    def leading_to(self, goal):
        """All numbers that lead to a number, none if this is None."""
        if goal is None:
            return {}
        return self.costs_to(goal, {move[0]: 0 for move in self.fields.moves})


def need_crew_weights(plan, crew):
    if crew_weights(plan, crew) is None:
        raise Refused("weights")


def walk_within(plan, crew, heap, most):
    """The walk from a heap, refused where it is too wide."""
    walk = Walk(plan, crew, heap, most)
    if walk.is_wide:
        raise Refused("many")
    return walk


def weighed_walk(plan, crew, heap, most):
    need_steps_named(plan, crew)
    need_crew_weights(plan, crew)
    return walk_within(plan, crew, heap, most)


def reached(plan, crew, heap, most):
    return weighed_walk(plan, crew, heap, most).all_heaps()


def first_run(plan, crew, heap, goal, most):
    walk = weighed_walk(plan, crew, heap, most)
    number = walk.number_of(goal)
    return None if number is None else walk.run_to(number)


def starts_of(plan, cases):
    return times(((plan.start, 1),), cases)


def ends_of(plan, cases):
    return times(((plan.end, 1),), cases)


def led(plan, crew, cases, heap, most):
    return weighed_walk(plan, crew, heap, most).led_to(ends_of(plan, cases))


def check_led(plan, crew, cases, heap, value):
    need_steps_named(plan, crew)
    ends = ends_of(plan, cases)
    if isinstance(value, Led):
        run = run_of(crew, value.run)
        return run is not None and leads(plan, heap, run, ends)
    return isinstance(value, Lost) and is_closed_lot(plan, crew, heap, ends, value.lot)


def is_plain_run(crew, value):
    return isinstance(value, tuple) and all([isinstance(name, str) and name in crew for name in value])


def is_run_by(crew, value):
    return isinstance(value, tuple) and all([is_row_by(crew, row) for row in value])


def is_row_by(crew, row):
    return is_pair(row) and isinstance(row[0], str) and row[0] in crew and is_count(row[1])


def run_of(crew, value):
    """The run that a plain run or a run of a crew is, None for anything else."""
    if is_plain_run(crew, value):
        return folded([(name, 1) for name in value])
    return value if is_run_by(crew, value) else None


def is_closed_lot(plan, crew, heap, ends, value):
    """Whether it is a lot of heaps that has one heap, not the ends, and all that a step of the crew leads to."""
    if not is_lot_of_heaps(plan, value) or heap not in value or ends in value:
        return False
    greatest = max([0, *[number for papers in value for _, number in papers]])
    fields = Fields(plan, crew, greatest)
    codes = {fields.code_of(papers): True for papers in value}
    return all([behind in codes for code in codes for _, behind in fields.ways_from(code)])


def is_lot_of_heaps(plan, value):
    if not isinstance(value, tuple):
        return False
    for at, heap in enumerate(value):
        if not is_heap_of(plan, heap) or (at > 0 and heap <= value[at - 1]):
            return False
    return True


def is_heap_of(plan, value):
    return is_heap(value) and all([place in plan.places for place, _ in value])


def cheapest(plan, crew, cases, heap, costs, most):
    return cheapest_on(weighed_walk(plan, crew, heap, most), ends_of(plan, cases), costs)


def cheapest_on(walk, ends, costs):
    """The pair of the least cost of a run of the walk to the ends and of the first of the shortest ones, else None."""
    goal = walk.number_of(ends)
    if goal is None:
        return None
    cost_of_step = dict(costs)
    # The heap's own number is 0: everything in the walk comes from it.
    left = walk.costs_to(goal, cost_of_step)
    at = 0
    run = []
    while at != goal:
        name, at = first_on_course(walk.ways[at], left, left[at], cost_of_step)
        run.append(name)
    return left[0][0], tuple(run)


def first_on_course(ways, left, here, cost_of_step):
    """The first way behind which just the rest of the least cost and of the fewest steps is left."""
    for name, to in ways:
        if to in left and (left[to][0] + cost_of_step[name], left[to][1] + 1) == here:
            return name, to
    return None


def check_costs(plan, value):
    names = names_of(plan)
    if not isinstance(value, tuple) or len(value) != len(names):
        return False
    return all([is_pair(pair) and pair[0] == name and is_number(pair[1]) for name, pair in zip(names, value)])
