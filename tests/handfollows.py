"""What follows from facts, worked out by the tests themselves: all rules over all that is named, again and again."""

from caseshome.lists import least_heaps
from caseshome.plantext import plan_text
from caseshome.weights import kept_weights
from tests.handsheets import carry_of, crew_of, heap_of, placed, whole_number, worth
from tests.search import live_of


class Clash(Exception):
    """A thing and its opposite follow."""


def carried(carry, papers):
    heaps, found = dict(carry), {}
    for place, number in papers:
        for to, many in heaps[place]:
            found[to] = found.get(to, 0) + number * many
    return tuple(sorted(found.items()))


def all_parts(facts):
    """All plans (by texts), crews, pairs, carries, questions that are named."""
    plans, crews, pairs, carries, worths = {}, {}, {}, {}, {}
    for word, asked in facts:
        if word in ("whole", "weights"):
            plans[plan_text(asked)] = asked
            continue
        plans[plan_text(asked[0])] = asked[0]
        if word in ("belongs", "comes"):
            pairs[asked[1:]] = True
        elif word == "ends":
            crews[asked[1]] = True
            pairs[asked[2:]] = True
        elif word == "sure":
            crews[asked[1]] = True
        elif word == "edition":
            plans[plan_text(asked[1])] = asked[1]
            carries[asked[2]] = True
        elif word == "below":
            worths[asked[1]] = True
    return plans, list(crews), list(pairs), list(carries), list(worths)


def key(word, asked):
    if word in ("whole", "weights"):
        return word, plan_text(asked)
    if word == "edition":
        return word, plan_text(asked[0]), plan_text(asked[1]), asked[2]
    return (word, plan_text(asked[0])) + asked[1:]


class ByHand:
    def __init__(self, facts, asked=()):
        self.plans, crews, pairs, carries, worths = all_parts([fact[:2] for fact in facts] + list(asked))
        self.crews = {text: [crew for crew in crews if crew_of(plan, crew)] for text, plan in self.plans.items()}
        self.pairs = {text: [pair for pair in pairs if heap_of(plan, pair[1])] for text, plan in self.plans.items()}
        self.worths = {text: [one for one in worths if self.is_worth(plan, one)] for text, plan in self.plans.items()}
        self.carries = [(old, new, carry) for old in self.plans for new in self.plans for carry in carries
                        if carry_of(self.plans[old], self.plans[new], carry)]
        self.least = {text: least_heaps(plan) if kept_weights(plan) is not None else None for text, plan in self.plans.items()}
        self.live = {text: live_of(plan) for text, plan in self.plans.items()}
        self.known = {}
        for word, question, answer in facts:
            self.tell(answer, *key(word, question))
        before = None
        while before != len(self.known):
            before = len(self.known)
            for text in self.plans:
                self.of_plan(text)
            self.of_editions()

    def is_worth(self, plan, one):
        return placed(one[0], [place for place in plan.places if place != plan.end], whole_number)

    def tell(self, answer, *parts):
        if self.known.setdefault(parts, answer) != answer:
            raise Clash(parts)

    def knows(self, answer, *parts):
        return parts in self.known and self.known[parts] == answer

    def of_plan(self, text):
        if self.knows(False, "weights", text):
            self.tell(False, "whole", text)
        if self.knows(True, "whole", text):
            self.tell(True, "weights", text)
            self.of_whole(text)
        for crew in self.crews[text]:
            self.of_crew(text, crew)
        for pair in self.pairs[text]:
            for one in self.worths[text]:
                if self.knows(True, "belongs", text, *pair) and worth((self.plans[text], one), *pair) < 0:
                    self.tell(True, "below", text, one)

    def of_whole(self, text):
        for pair in self.pairs[text]:
            if self.knows(True, "belongs", text, *pair):
                self.tell(True, "comes", text, *pair)
                if self.live[text] in self.crews[text]:
                    self.tell(True, "ends", text, self.live[text], *pair)
            if self.knows(True, "comes", text, *pair):
                self.tell(True, "belongs", text, *pair)
            if self.knows(False, "belongs", text, *pair):
                self.tell(False, "comes", text, *pair)
            if self.knows(False, "comes", text, *pair):
                self.tell(False, "belongs", text, *pair)
        if self.least[text] is not None:
            for crew in self.crews[text]:
                if all(self.knows(True, "ends", text, crew, *pair) for pair in self.least[text]):
                    self.tell(True, "sure", text, crew)

    def of_crew(self, text, crew):
        if self.knows(True, "sure", text, crew):
            self.tell(True, "whole", text)
            for pair in self.pairs[text]:
                if self.knows(True, "belongs", text, *pair):
                    self.tell(True, "ends", text, crew, *pair)
            for other in self.crews[text]:
                if set(crew) <= set(other):
                    self.tell(True, "sure", text, other)
        if self.knows(False, "sure", text, crew):
            for other in self.crews[text]:
                if set(other) <= set(crew):
                    self.tell(False, "sure", text, other)
        for pair in self.pairs[text]:
            if self.knows(True, "belongs", text, *pair) and self.knows(False, "ends", text, crew, *pair):
                self.tell(False, "sure", text, crew)
                if set(self.live[text]) <= set(crew):
                    self.tell(False, "whole", text)

    def of_editions(self):
        for old, new, carry in self.carries:
            told = self.knows(True, "edition", old, new, carry)
            if told:
                self.tell(True, "whole", new)
            for cases, papers in self.pairs[old]:
                if not self.knows(True, "belongs", old, cases, papers):
                    continue
                target = (cases, carried(carry, papers))
                if told and target in self.pairs[new]:
                    self.tell(True, "belongs", new, *target)
                if self.knows(False, "belongs", new, *target):
                    self.tell(False, "edition", old, new, carry)
            if told:
                for middle, last, second in self.carries:
                    if middle == new and self.knows(True, "edition", new, last, second):
                        both = tuple((place, carried(second, papers)) for place, papers in carry)
                        if (old, last, both) in self.carries:
                            self.tell(True, "edition", old, last, both)


def follows_by_hand(facts, word, question):
    """The answer that follows, None if none does."""
    return ByHand(facts, [(word, question)]).known.get(key(word, question))


def all_by_hand(facts):
    """The keys of all that follows in their order, with their answers."""
    known = ByHand(facts).known

    def place(told):
        plans = 3 if told[0] == "edition" else 2
        return told[0], told[1:plans], told[plans:]
    return [(told, known[told]) for told in sorted(known, key=place)]
