"""The audit of a record: the first row of it that is not right."""

from caseshome.errors import InvalidCommand
from caseshome.facts import facts_of
from caseshome.follows import told_by
from caseshome.hearing import heard
from caseshome.house import House
from caseshome.sheets import sheet_holds


def audit(record, most):
    if not isinstance(record, (list, tuple)):
        return -1
    house = House(most)
    facts = []
    for at, row in enumerate(record):
        if not is_row(row):
            return at
        facts.extend([fact for sheet in row[2] for fact in facts_of(sheet)])
        if not is_right(house, facts, row[0], row[1]):
            return at
    return None


def is_row(value):
    """Whether it is a triple with a tuple of sheets that hold in the last place."""
    if not isinstance(value, tuple) or len(value) != 3 or not isinstance(value[2], tuple):
        return False
    return all([sheet_holds(sheet) for sheet in value[2]])


def is_right(house, facts, line, outcome):
    """Whether an outcome is the one due for a line, and what it hangs on is shown; the house does the line."""
    try:
        answer, due = heard(house, line)
    except InvalidCommand:
        return False
    if not is_same(outcome, answer):
        return False
    return all([is_shown(facts, fact) for together in due for fact in together])


def is_shown(facts, fact):
    word, question, answer = fact
    return told_by(facts, word, question) == answer


def is_same(value, answer):
    """Whether any value is an answer: also a bool is no integer, and a list no tuple."""
    if isinstance(answer, tuple):
        if not isinstance(value, tuple) or len(value) != len(answer):
            return False
        return all([is_same(one, other) for one, other in zip(value, answer)])
    return type(value) is type(answer) and value == answer
