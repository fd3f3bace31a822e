"""Sheets that the functions of the package tell: for each word the paper for a question, None where there is none."""

from caseshome.closure import rousing
from caseshome.court import Stuck, Sure
from caseshome.editions import Edition, is_living
from caseshome.lattice import barred, made_by
from caseshome.lending import near
from caseshome.prices import mean_of
from caseshome.questions import worth_of
from caseshome.walks import Led, led, need_crew_weights


def live_paper(judge, plan):
    return rousing(plan)


def weights_paper(judge, plan):
    return judge.judged(plan).weights


def nothing_paper(judge, plan):
    found = judge.judged(plan)
    return found.verdict.made if found.weights is None else None


def in_paper(judge, question):
    plan, cases, heap = question
    return made_by(plan, cases, heap)


def out_paper(judge, question):
    plan, cases, heap = question
    return barred(plan, cases, heap)


def lists_paper(judge, plan):
    found = judge.judged(plan)
    return None if found.weights is None else found.lists


def whole_paper(judge, plan):
    found = judge.judged(plan)
    return (found.lists, found.weights, found.verdict.endings) if found.is_whole() else None


def stuck_paper(judge, plan):
    found = judge.judged(plan).verdict
    if not isinstance(found, Stuck):
        return None
    return found.cases, found.heap, made_by(plan, found.cases, found.heap), found.lot


def walked(judge, question):
    plan, crew, cases, heap = question
    return led(plan, crew, cases, heap, judge.most)


def led_paper(judge, question):
    found = walked(judge, question)
    return found.run if isinstance(found, Led) else None


def lost_paper(judge, question):
    found = walked(judge, question)
    return None if isinstance(found, Led) else found.lot


def sure_paper(judge, question):
    plan, crew = question
    whole = whole_paper(judge, plan)
    if whole is None:
        return None
    # Dead steps may stand in it, and these may raise weights.
    need_crew_weights(plan, crew)
    found = judge.sure(plan, crew)
    return (whole, found.endings) if isinstance(found, Sure) else None


def told_edition(judge, question):
    """What is told of an edition into a plan that is whole, None where nothing is."""
    old, new, carry = question
    if not judge.judged(new).is_whole() or not is_living(new, carry):
        return None
    return judge.edition(old, new, carry)


def edition_paper(judge, question):
    found = told_edition(judge, question)
    return (whole_paper(judge, question[1]), found.sums) if isinstance(found, Edition) else None


def no_edition_paper(judge, question):
    found = told_edition(judge, question)
    return None if found is None or isinstance(found, Edition) else (found.word, found.fractions)


def first_below(judge, question):
    """The first least heap of a whole plan at which a question is below 0, None if there is none."""
    plan, asked = question
    for cases, heap in judge.judged(plan).pairs:
        if worth_of(plan, asked, cases, heap) < 0:
            return cases, heap
    return None


def never_paper(judge, question):
    whole = whole_paper(judge, question[0])
    return None if whole is None or first_below(judge, question) is not None else whole


def below_paper(judge, question):
    plan, _ = question
    if not judge.judged(plan).is_whole():
        return None
    found = first_below(judge, question)
    return None if found is None else (*found, made_by(plan, *found))


def mean_paper(judge, question):
    plan, costs = question
    if not judge.judged(plan).is_whole():
        return None
    best = mean_of(plan, costs)
    return best.cost, best.takes, best.prices


def near_paper(judge, question):
    plan, cases, heap = question
    return near(plan, cases, heap, judge.most)


PAPERS = {
    "live": live_paper,
    "weights": weights_paper,
    "nothing": nothing_paper,
    "in": in_paper,
    "out": out_paper,
    "lists": lists_paper,
    "whole": whole_paper,
    "stuck": stuck_paper,
    "led": led_paper,
    "lost": lost_paper,
    "sure": sure_paper,
    "edition": edition_paper,
    "no edition": no_edition_paper,
    "never": never_paper,
    "below": below_paper,
    "mean": mean_paper,
    "near": near_paper,
}


def sheet_by(judge, word, question):
    """The sheet that the functions tell for a right question, None where they tell something else; they may refuse."""
    paper = PAPERS[word]
    found = paper(judge, question)
    return None if found is None else (word, question, found)


def lost_sheets(judge, plan, crew, unsure):
    """The two sheets that show a crew of a whole plan not sure, by what is told of it."""
    lost = ("lost", (plan, crew, unsure.cases, unsure.heap), unsure.lot)
    return (lost, sheet_by(judge, "in", (plan, unsure.cases, unsure.heap)))
