"""Least costs: fractions of times of rows, none below 0, that make a target, and prices that show them least."""

from caseshome.fractions import compared, fraction, is_fraction, is_fraction_row, worth
from caseshome.rows import leading_place, transposed


class Best:
    def __init__(self, cost, takes, prices):
        self.cost = cost
        self.takes = takes
        self.prices = prices

    def __eq__(self, other):
        return (isinstance(other, Best) and self.cost == other.cost and self.takes == other.takes
                and self.prices == other.prices)


class Never:
    def __init__(self, prices):
        self.prices = prices

    def __eq__(self, other):
        return isinstance(other, Never) and self.prices == other.prices


class Endless:
    def __init__(self, takes, ring):
        self.takes = takes
        self.ring = ring

    def __eq__(self, other):
        return isinstance(other, Endless) and self.takes == other.takes and self.ring == other.ring


class Table:
    """A simplex table of integers over one common bottom.

    Its columns are the rows that may be taken, then one stopgap for each place, then the target; its lines are one
    for each place, then what is left of the costs, then what is left of the costs of stopgaps (1 each).
    """

    def __init__(self, rows, target, costs):
        self.many = len(rows)
        self.width = len(target)
        # Each place's line is turned so that its target is not below 0: the stopgaps alone make it then.
        self.signs = [-1 if number < 0 else 1 for number in target]
        self.lines = [self.first_line(rows, target, place) for place in range(self.width)]
        self.lines.append([*costs, *[0] * self.width, 0])
        lacking = [-sum([line[k] for line in self.lines[:-1]]) for k in range(self.many)]
        total = -sum([line[-1] for line in self.lines[:-1]])
        self.lines.append([*lacking, *[0] * self.width, total])
        self.chosen = [self.many + place for place in range(self.width)]
        self.bottom = 1

    def first_line(self, rows, target, place):
        sign = self.signs[place]
        stopgaps = [1 if k == place else 0 for k in range(self.width)]
        return [*[sign * row[place] for row in rows], *stopgaps, sign * target[place]]

    def pivot(self, at, column):
        """Let a column be chosen in a line, in the place of the one that was."""
        head = self.lines[at]
        number = head[column]
        self.lines = [line if k == at else self.without(line, head, column) for k, line in enumerate(self.lines)]
        self.bottom = number
        self.chosen[at] = column
        if number < 0:
            self.lines = [[-one for one in line] for line in self.lines]
            self.bottom = -number

    def without(self, line, head, column):
        """A line with 0 in a column, over the new bottom.

        The division by the last one leaves nothing over, as all entries are minors of the first table.
        """
        number, times = head[column], line[column]
        return [(number * one - times * two) // self.bottom for one, two in zip(line, head)]

    def improved(self, costs_at):
        """Choose columns until none makes it cheaper: None, or the column that does so without an end."""
        while True:
            column = first_below(self.lines[costs_at], self.many)
            if column is None:
                return None
            at = self.tightest(column)
            if at is None:
                return column
            self.pivot(at, column)

    def tightest(self, column):
        """The line that stops a column first, of several the one with the first column (so nothing goes in rings)."""
        best = None
        for at in range(self.width):
            line = self.lines[at]
            if line[column] <= 0:
                continue
            if best is None:
                best = at
                continue
            head = self.lines[best]
            here, there = line[-1] * head[column], head[-1] * line[column]
            if here < there or (here == there and self.chosen[at] < self.chosen[best]):
                best = at
        return best

    def drop_stopgaps(self):
        """Let no stopgap be chosen in a line in which some row could be: there it might grow again."""
        for at in range(self.width):
            if self.chosen[at] >= self.many:
                column = leading_place(self.lines[at][:self.many])
                if column is not None:
                    self.pivot(at, column)

    def spread(self, numbers):
        """Fractions for all rows out of numbers over the bottom, one for the column chosen in each line."""
        found = [(0, 1)] * self.many
        for at, column in enumerate(self.chosen):
            if column < self.many:
                found[column] = fraction(numbers[at], self.bottom)
        return found

    def takes_now(self):
        return tuple(self.spread([line[-1] for line in self.lines[:self.width]]))

    def ring_with(self, column):
        found = self.spread([-line[column] for line in self.lines[:self.width]])
        found[column] = (1, 1)
        return tuple(found)

    def prices_by(self, costs_at, stopgap_cost):
        """What is left of a stopgap's cost is its cost less the price of its place."""
        left = self.lines[costs_at][self.many:-1]
        return tuple([fraction(sign * (stopgap_cost * self.bottom - one), self.bottom)
                      for sign, one in zip(self.signs, left)])


def first_below(line, many):
    for k in range(many):
        if line[k] < 0:
            return k
    return None


def least_cost(rows, target, costs):
    table = Table(rows, target, costs)
    stopgaps_at, costs_at = table.width + 1, table.width
    table.improved(stopgaps_at)
    if table.lines[stopgaps_at][-1] != 0:
        return Never(table.prices_by(stopgaps_at, 1))
    table.drop_stopgaps()
    column = table.improved(costs_at)
    if column is not None:
        return Endless(table.takes_now(), table.ring_with(column))
    cost = fraction(-table.lines[costs_at][-1], table.bottom)
    return Best(cost, table.takes_now(), table.prices_by(costs_at, 0))


def check_cost(rows, target, costs, value):
    if isinstance(value, Best):
        return (is_fraction(value.cost) and are_takes(rows, target, value.takes)
                and worth(value.takes, costs) == value.cost and are_prices(rows, target, costs, value.prices)
                and worth(value.prices, target) == value.cost)
    if isinstance(value, Never):
        noughts = (0,) * len(rows)
        return are_prices(rows, target, noughts, value.prices) and worth(value.prices, target)[0] > 0
    if isinstance(value, Endless):
        noughts = (0,) * len(target)
        return (are_takes(rows, target, value.takes) and are_takes(rows, noughts, value.ring)
                and worth(value.ring, costs)[0] < 0)
    return False


def are_takes(rows, target, value):
    """Whether a value has a fraction for each row, none below 0, that make the target together."""
    if not is_fraction_row(value, len(rows)) or any([one[0] < 0 for one in value]):
        return False
    columns = transposed(rows, len(target))
    return all([worth(value, column) == (number, 1) for column, number in zip(columns, target)])


def are_prices(rows, target, costs, value):
    """Whether a value has a fraction for each place by which no row is worth more than it costs."""
    if not is_fraction_row(value, len(target)):
        return False
    return all([compared(worth(value, row), (cost, 1)) <= 0 for row, cost in zip(rows, costs)])
