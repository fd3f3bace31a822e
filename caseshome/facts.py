"""Facts: what sheets show."""

from caseshome.asked import is_asked
from caseshome.closure import live_steps
from caseshome.fractions import is_fraction

# The kind of the question of each word.
KINDS = {
    "belongs": "pair",
    "below": "worth",
    "comes": "pair",
    "edition": "carry",
    "ends": "walk",
    "mean": "costs",
    "sure": "crew",
    "weights": "plan",
    "whole": "plan",
}


def is_fact(value):
    if not isinstance(value, tuple) or len(value) != 3 or not isinstance(value[0], str) or value[0] not in KINDS:
        return False
    if not is_asked(KINDS[value[0]], value[1]):
        return False
    return is_fraction(value[2]) if value[0] == "mean" else isinstance(value[2], bool)


def facts_of(sheet):
    word, question, paper = sheet
    if word in ("weights", "nothing", "stuck", "whole"):
        return facts_of_plan(word, question, paper)
    if word in ("in", "out"):
        return (("belongs", question, word == "in"),)
    if word in ("led", "lost"):
        return (("ends", question, word == "led"),)
    if word == "sure":
        return ("whole", question[0], True), ("sure", question, True)
    if word == "edition":
        return ("whole", question[1], True), ("edition", question, True)
    if word == "no edition":
        return (("edition", question, False),)
    if word == "never":
        return ("whole", question[0], True), ("below", question, False)
    if word == "below":
        return ("belongs", (question[0], paper[0], paper[1]), True), ("below", question, True)
    if word == "mean":
        return (("mean", question, paper[0]),)
    return (("comes", question, True),) if word == "near" else ()


def facts_of_plan(word, plan, paper):
    if word == "weights":
        return (("weights", plan, True),)
    if word == "nothing":
        return ("weights", plan, False), ("whole", plan, False)
    if word == "whole":
        return ("weights", plan, True), ("whole", plan, True)
    cases, heap = paper[:2]
    ends = ("ends", (plan, live_steps(plan), cases, heap), False)
    return ("belongs", (plan, cases, heap), True), ends, ("whole", plan, False)
