"""A desk: a house that hears lines, and a record of what was said with sheets that show why."""

from caseshome.hearing import heard
from caseshome.house import House
from caseshome.papers import lost_sheets, sheet_by
from caseshome.plantext import plan_text


class Desk:
    def __init__(self, most=2000):
        self._house = House(most)
        self.most = most
        self._rows = []
        self._shown = {}

    def say(self, line):
        outcome, due = heard(self._house, line)
        sheets = [sheet for facts in due for sheet in self.sheets_due(facts)]
        self._rows.append((line, outcome, tuple(sheets)))
        return outcome

    def sheets_due(self, facts):
        """The sheets that show facts, none if they were due before."""
        key = due_key(facts[0])
        if key in self._shown:
            return ()
        self._shown[key] = True
        return sheets_of(self._house.judge(), facts)

    def house(self):
        return self._house.twin()

    def record(self):
        return tuple(self._rows)


def due_key(fact):
    """The word and the question of a fact that is due, plans by their texts."""
    word, question, _ = fact
    if word == "whole":
        return word, plan_text(question)
    if word == "edition":
        return word, plan_text(question[0]), plan_text(question[1]), question[2]
    return word, plan_text(question[0]), question[1]


def sheets_of(judge, facts):
    """The sheets for facts that are due together."""
    word, question, answer = facts[0]
    if word == "whole" and answer is False:
        words = ["nothing"] if facts[1][2] is False else ["stuck", "weights"]
        return [sheet_by(judge, one, question) for one in words]
    if word == "edition" and answer is False:
        return [sheet_by(judge, "no edition", question)]
    if word == "sure" and answer is False:
        plan, crew = question
        return lost_sheets(judge, plan, crew, judge.sure(plan, crew))
    return [sheet_by(judge, word, question)]


def run_lines(lines, most):
    desk = Desk(most)
    return tuple([desk.say(line) for line in lines])
