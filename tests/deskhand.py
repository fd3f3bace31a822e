"""What a desk tells, and which sheets are due, worked out by the tests with a house that judges anew."""

from caseshome.commands import deed_line
from caseshome.court import Sure, Unsure
from caseshome.lists import least_heaps
from caseshome.plantext import plan_text
from caseshome.prices import least_mean
from tests.helpers import step_by_hand, triple_of
from tests.model import SORTS, Model
from tests.somedeeds import FORK, LINE, PLANS, some_deed


class DeskByHand:
    """A desk that is told deeds, or rows of words that ask; it has for each the line, the outcome and what is due."""

    def __init__(self, most):
        self.model = Model(most)
        self.most = most
        self.before = []

    def say(self, told):
        """The triple (line, outcome, due): what is due are tuples (words of sheets, question)."""
        if told[0] == "ask":
            outcome, due = self.ask(*told[1:])
            return " ".join(str(word) for word in told[1:]), outcome, due
        due = self.due_of(told)
        return deed_line(told), ("did", self.model.do(told)), due

    def due_of(self, deed):
        """What is due for a deed, done in a house apart."""
        scratch = Model(self.most)
        scratch.things = dict(self.model.things)
        found = []
        for single in deed[1] if deed[0] == "batch" else (deed,):
            if single[0] in ("undo", "redo"):
                continue
            word = scratch.single(single)
            if single[0] == "plan" and word in ("done", "growing", "stuck"):
                found.append(({"done": ("whole",), "growing": ("nothing",), "stuck": ("stuck", "weights")}[word], single[2]))
            if single[0] == "edition" and word in ("done", "edition"):
                question = (scratch.things[single[2]][1], scratch.things[single[3]][1], single[4])
                found.append((("edition",) if word == "done" else ("no edition",), question))
            if word != "done":
                break
        return found

    def ask(self, word, *rest):
        things = self.model.things
        if word == "depth":
            return ("told", (len(self.model.done), len(self.model.undone))), []
        if word == "names":
            return ("told", self.model.names(rest[0])), []
        sorts = {"told": (None,), "whole": ("plan",), "open": ("floor",), "can": ("floor", "crew"), "ending": ("floor",), "sure": ("crew",),
                 "comes": ("floor",), "mean": ("plan",)}[word]
        names, numbers = rest[:len(sorts)], rest[len(sorts):]
        if any(name not in things for name in names):
            return ("refused", "name"), []
        if any(sort and things[name][0] != sort for sort, name in zip(sorts, names)):
            return ("refused", "sort"), []
        return getattr(self, "ask_" + word)(*names, *numbers)

    def ask_told(self, name):
        thing = self.model.things[name]
        deed = ("lay", name) + thing[2:] if thing[0] == "floor" else (thing[0], name) + thing[1:]
        return ("told", deed_line(deed)), []

    def ask_whole(self, name):
        return ("told", len(least_heaps(self.model.things[name][1]))), []

    def plan_of(self, name):
        return self.model.things[self.model.things[name][1]][1]

    def ask_open(self, name):
        return ("told", self.model.things[name][2] - dict(self.model.things[name][3]).get(self.plan_of(name).end, 0)), []

    def ask_can(self, floor, crew):
        if self.model.things[crew][1] != self.model.things[floor][1]:
            return ("refused", "other"), []
        papers = dict(self.model.things[floor][3])
        return ("told", tuple(name for name in self.model.things[crew][2] if step_by_hand(papers, triple_of(self.plan_of(floor), name)) is not None)), []

    def ask_ending(self, name):
        return ("told", " ".join(f"{many} {step}" if many > 1 else step for step, many in self.model.ending(name))), []

    def ask_sure(self, name):
        found = self.model.sure(name)
        question = (self.plan_of(name), self.model.things[name][2])
        return ("told", isinstance(found, Sure)), [(("lost", "in") if isinstance(found, Unsure) else ("sure",), question)]

    def ask_comes(self, name):
        return ("told", True), []

    def ask_mean(self, name, *numbers):
        plan = self.model.things[name][1]
        if len(numbers) != len(plan.steps):
            return ("refused", "costs"), []
        costs = tuple((step[0], number) for step, number in zip(plan.steps, numbers))
        return ("told", least_mean(plan, costs, self.most).cost), [(("mean",), (plan, costs))]


def due_key(words, question):
    """What is due, so that it can be compared: plans by their texts."""
    parts = question if isinstance(question, tuple) else (question,)
    return words, tuple(plan_text(part) if hasattr(part, "steps") else part for part in parts)


def is_due(sheet, question):
    """Whether a sheet's question is the one that is due, of "lost" and "in" with some least heap."""
    word, asked, paper = sheet
    if word not in ("lost", "in"):
        return asked == question
    plan, crew = question
    pair = asked[-2:]
    return asked[:1] == (plan,) and pair in least_heaps(plan) and (word == "in" or asked[1] == crew)


def some_saying(rng, model):
    """A deed, or what is asked, by chance."""
    if rng.random() < 0.06:
        return "plan", rng.choice("tuvw"), rng.choice(PLANS)
    if rng.random() < 0.06:
        name, plan = rng.choice((("p", LINE), ("q", FORK)))
        return "crew", rng.choice("hijk"), name, tuple(sorted(rng.sample([step[0] for step in plan.steps], 1)))
    if rng.random() < 0.55:
        return some_deed(rng, True)
    word = rng.choice(("names", "told", "depth", "whole", "open", "can", "ending", "sure", "comes", "mean"))
    names = "pqrtcdxyfgn"
    sort = {"whole": "plan", "open": "floor", "can": "floor", "ending": "floor", "sure": "crew", "comes": "floor", "mean": "plan"}.get(word)
    own = model.names(sort) if sort and rng.random() < 0.8 else ()
    name = rng.choice(own or names)
    if word == "depth":
        return "ask", word
    if word == "names":
        return "ask", word, rng.choice(SORTS)
    if word == "can":
        return "ask", word, name, rng.choice("cd" if rng.random() < 0.8 else names)
    if word == "mean":
        many = len(model.things[name][1].steps) if model.has("plan", name) and rng.random() < 0.8 else rng.randint(0, 3)
        return ("ask", word, name) + tuple(rng.randint(0, 5) for _ in range(many))
    return "ask", word, name
