"""Sheets: papers that show what is told, looked at without believing it and without walking further than they go."""

from caseshome.asked import is_asked, is_pair_of
from caseshome.basics import is_count
from caseshome.closure import check_rousing, live_steps
from caseshome.court import are_endings
from caseshome.editions import Edition, NoEdition, check_edition, is_living
from caseshome.errors import InvalidSize, Refused
from caseshome.judge import Judge
from caseshome.lattice import check_barred, check_made, pair_at
from caseshome.lending import check_near
from caseshome.lists import are_lists, check_lists, single_among
from caseshome.papers import sheet_by
from caseshome.prices import check_mean
from caseshome.questions import worth_of
from caseshome.simplex import Best
from caseshome.walks import Led, Lost, check_led
from caseshome.weights import check_nothing, check_weights

# The kind of the question of each word.
KINDS = {
    "below": "worth",
    "edition": "carry",
    "in": "pair",
    "led": "walk",
    "lists": "plan",
    "live": "plan",
    "lost": "walk",
    "mean": "costs",
    "near": "pair",
    "never": "worth",
    "no edition": "carry",
    "nothing": "plan",
    "out": "pair",
    "stuck": "plan",
    "sure": "crew",
    "weights": "plan",
    "whole": "plan",
}


def words():
    return tuple(sorted(list(KINDS)))


def is_row(value, length):
    return isinstance(value, tuple) and len(value) == length


def least_shown(plan, lists):
    """The least heaps by lists that have all single beginnings, ascending."""
    return tuple(sorted([pair_at(plan, row) for row in single_among(lists[-1])]))


def shows_whole(plan, paper):
    if not is_row(paper, 3):
        return False
    lists, weights, endings = paper
    # The weights go first: what is told of lists is told of plans that have some.
    if not check_weights(plan, weights) or not are_lists(plan, lists):
        return False
    return are_endings(plan, live_steps(plan), least_shown(plan, lists), endings)


def holds_in(question, paper):
    plan, cases, heap = question
    return check_made(plan, cases, heap, paper)


def holds_out(question, paper):
    plan, cases, heap = question
    return check_barred(plan, cases, heap, paper)


def holds_stuck(plan, paper):
    if not is_row(paper, 4) or not is_count(paper[0]) or not is_pair_of(plan, paper[0], paper[1]):
        return False
    cases, heap, made, lot = paper
    return check_made(plan, cases, heap, made) and check_led(plan, live_steps(plan), cases, heap, Lost(lot))


def holds_led(question, paper):
    plan, crew, cases, heap = question
    return check_led(plan, crew, cases, heap, Led(paper))


def holds_lost(question, paper):
    plan, crew, cases, heap = question
    return check_led(plan, crew, cases, heap, Lost(paper))


def holds_sure(question, paper):
    plan, crew = question
    if not is_row(paper, 2) or not shows_whole(plan, paper[0]):
        return False
    return are_endings(plan, crew, least_shown(plan, paper[0][0]), paper[1])


def holds_edition(question, paper):
    old, new, carry = question
    if not is_row(paper, 2) or not is_living(new, carry) or not shows_whole(new, paper[0]):
        return False
    return check_edition(old, new, carry, Edition(paper[1]))


def holds_no_edition(question, paper):
    old, new, carry = question
    if not is_row(paper, 2) or not is_living(new, carry):
        return False
    return check_edition(old, new, carry, NoEdition(paper[0], paper[1]))


def holds_never(question, paper):
    plan, asked = question
    if not shows_whole(plan, paper):
        return False
    return all([worth_of(plan, asked, cases, heap) >= 0 for cases, heap in least_shown(plan, paper[0])])


def holds_below(question, paper):
    plan, asked = question
    if not is_row(paper, 3) or not is_pair_of(plan, paper[0], paper[1]):
        return False
    cases, heap, made = paper
    return check_made(plan, cases, heap, made) and worth_of(plan, asked, cases, heap) < 0


def holds_mean(question, paper):
    plan, costs = question
    return is_row(paper, 3) and check_mean(plan, costs, Best(paper[0], paper[1], paper[2]))


def holds_near(question, paper):
    plan, cases, heap = question
    return check_near(plan, cases, heap, paper)


def holds_live(plan, paper):
    return check_rousing(plan, paper)


def holds_weights(plan, paper):
    return check_weights(plan, paper)


def holds_nothing(plan, paper):
    return check_nothing(plan, paper)


def holds_lists(plan, paper):
    return check_lists(plan, paper)


LOOKS = {
    "below": holds_below,
    "edition": holds_edition,
    "in": holds_in,
    "led": holds_led,
    "lists": holds_lists,
    "live": holds_live,
    "lost": holds_lost,
    "mean": holds_mean,
    "near": holds_near,
    "never": holds_never,
    "no edition": holds_no_edition,
    "nothing": holds_nothing,
    "out": holds_out,
    "stuck": holds_stuck,
    "sure": holds_sure,
    "weights": holds_weights,
    "whole": shows_whole,
}


def is_word(value):
    return isinstance(value, str) and value in KINDS


def sheet_holds(value):
    if not is_row(value, 3) or not is_word(value[0]) or not is_asked(KINDS[value[0]], value[1]):
        return False
    look = LOOKS[value[0]]
    return look(value[1], value[2])


def sheet_for(word, question, most):
    if not is_word(word):
        raise InvalidSize("word")
    if not is_asked(KINDS[word], question):
        raise InvalidSize("question")
    try:
        return sheet_by(Judge(most), word, question)
    except Refused:
        return None
