"""What a house answers to a line, and the facts by which the answer is as it is."""

from caseshome.basics import is_digits, is_name, number_of, number_text
from caseshome.commands import deed_line, read_deed, row_words
from caseshome.court import Sure
from caseshome.errors import InvalidCommand, Refused
from caseshome.house import SORTS
from caseshome.plans import names_of
from caseshome.prices import mean_of

# The sorts of the names behind each word that asks; "" stands for any sort.
ASKS = {
    "told": ("",),
    "whole": ("plan",),
    "open": ("floor",),
    "can": ("floor", "crew"),
    "ending": ("floor",),
    "sure": ("crew",),
    "comes": ("floor",),
    "mean": ("plan",),
}


def heard(house, line):
    """The outcome of a line said to a house, which does what it tells, and what is due.

    What is due is a row of tuples of facts, each of which is to be shown.
    """
    if not isinstance(line, str):
        raise InvalidCommand()
    words = line.split(" ")
    if words == ["depth"]:
        return ("told", house.depth()), ()
    if words[0] == "names":
        return ("told", house.names(sort_in(words))), ()
    if words[0] in ASKS:
        return heard_ask(house, words)
    deed = read_deed(line)
    due = due_of_batch(house, deed[1]) if deed[0] == "batch" else None
    word = house.do(deed)
    return ("did", word), due_of(house, deed, word) if due is None else due


def sort_in(words):
    if len(words) != 2 or words[1] not in SORTS:
        raise InvalidCommand()
    return words[1]


def heard_ask(house, words):
    sorts = ASKS[words[0]]
    names = words[1:1 + len(sorts)]
    numbers = words[1 + len(sorts):]
    if len(names) < len(sorts) or not all([is_name(name) for name in names]):
        raise InvalidCommand()
    if words[0] != "mean" and numbers:
        raise InvalidCommand()
    if not all([is_number_text(number) for number in numbers]):
        raise InvalidCommand()
    word = fault_of(house, sorts, names)
    if word is not None:
        return ("refused", word), ()
    try:
        answer, due = answered(house, words[0], names, [number_of(number) for number in numbers])
    except Refused as refusal:
        return ("refused", refusal.word), ()
    return ("told", answer), due


def is_number_text(text):
    return is_digits(text) and number_text(number_of(text)) == text


def fault_of(house, sorts, names):
    """The word by which names are refused, None if all are there and of their sorts."""
    there = [name for sort in SORTS for name in house.names(sort)]
    if any([name not in there for name in names]):
        return "name"
    if any([sort != "" and house.told(name)[0] != sort for sort, name in zip(sorts, names)]):
        return "sort"
    return None


def answered(house, word, names, numbers):
    """The answer to what is asked of names that are there, and what is due."""
    name = names[0]
    if word == "told":
        return made_line(name, house.told(name)), ()
    if word == "whole":
        return len(house.heaps_now(name)), ()
    if word == "open":
        return house.open_now(name), ()
    if word == "can":
        return house.can_now(name, names[1]), ()
    if word == "ending":
        return " ".join(row_words(house.ending_now(name))), ()
    if word == "comes":
        # What is on a floor belongs to a whole plan: so it comes about with others ended beside.
        return True, ()
    return sure_answer(house, name) if word == "sure" else mean_answer(house, name, numbers)


def made_line(name, thing):
    """A line that makes what a name has, of a floor the line that lays it."""
    if thing[0] == "floor":
        return deed_line(("lay", name, thing[2], thing[3]))
    return deed_line((thing[0], name, *thing[1:]))


def sure_answer(house, name):
    _, plan, steps = house.told(name)
    answer = isinstance(house.sure_now(name), Sure)
    return answer, ((("sure", (house.plan_named(plan), steps), answer),),)


def mean_answer(house, name, numbers):
    plan = house.plan_named(name)
    steps = names_of(plan)
    if len(numbers) != len(steps):
        raise Refused("costs")
    costs = tuple(list(zip(steps, numbers)))
    cost = mean_of(plan, costs).cost
    return cost, ((("mean", (plan, costs), cost),),)


def due_of_batch(house, deeds):
    """What is due for each deed of a batch up to the first that is not done."""
    scratch = house.twin()
    due = []
    for deed in deeds:
        word = scratch.do(deed)
        due.extend(due_of(scratch, deed, word))
        if word != "done":
            break
    return tuple(due)


def due_of(house, deed, word):
    """What is due for a single deed that was just done, or not, in a house."""
    if deed[0] == "plan":
        return due_of_plan(deed[2], word)
    if deed[0] == "edition" and word in ("done", "edition"):
        question = (house.plan_named(deed[2]), house.plan_named(deed[3]), deed[4])
        return ((("edition", question, word == "done"),),)
    return ()


def due_of_plan(plan, word):
    if word == "done":
        return ((("whole", plan, True),),)
    if word == "growing":
        return ((("whole", plan, False), ("weights", plan, False)),)
    if word == "stuck":
        return ((("whole", plan, False), ("weights", plan, True)),)
    return ()
