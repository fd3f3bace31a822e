"""What follows from facts, by rules that go on until nothing new comes, of what is named alone."""

from caseshome.naming import Named
from caseshome.questions import worth_of


class Following:
    """All that follows: answers by the keys of what is named."""

    def __init__(self, named, facts):
        self.named = named
        self.answers = {}
        self.left = []
        many = len(named.plans.things)
        # For each plan the pairs (other plan, carry) of the editions out of it, and into it.
        self.out_of = [[] for _ in range(many)]
        self.into = [[] for _ in range(many)]
        for word, question, answer in facts:
            self.tell(named.key_of(word, question), answer)
        while self.left:
            self.go_on(self.left.pop())

    def tell(self, key, answer):
        if key not in self.answers:
            self.answers[key] = answer
            self.left.append(key)

    def is_true(self, key):
        return self.answers.get(key) is True

    def is_false(self, key):
        return self.answers.get(key) is False

    def go_on(self, key):
        """Tell what follows from what is told, with all that was told before."""
        word, plan = key[:2]
        answer = self.answers[key]
        if word == "weights" and answer is False:
            self.tell(("whole", plan), False)
        if word == "whole" and answer is True:
            self.from_whole(plan)
        if word == "sure":
            self.from_sure(plan, key[2], answer)
        if word == "edition" and answer is True:
            self.from_edition(plan, key[2], key[3])
        if word == "ends":
            self.from_ends(plan, key[2], key[3], answer)
        if word in ("belongs", "comes") and self.is_true(("whole", plan)):
            self.of_whole(plan, key[2])
        if word == "belongs":
            self.from_belongs(plan, key[2], answer)

    def from_whole(self, plan):
        crews, pairs, _ = self.named.of_plan(plan)
        self.tell(("weights", plan), True)
        for pair in pairs:
            self.of_whole(plan, pair)
        for crew in crews:
            self.if_all_ended(plan, crew)

    def of_whole(self, plan, pair):
        """Rule (2): of a plan that is whole."""
        belongs, comes = ("belongs", plan, pair), ("comes", plan, pair)
        if self.is_true(belongs):
            self.tell(comes, True)
            crew = self.named.live_crew(plan)
            if crew is not None:
                self.tell(("ends", plan, crew, pair), True)
        if self.is_true(comes):
            self.tell(belongs, True)
        if self.is_false(belongs):
            self.tell(comes, False)
        if self.is_false(comes):
            self.tell(belongs, False)

    def from_sure(self, plan, crew, answer):
        crews, pairs, _ = self.named.of_plan(plan)
        if answer is False:
            for other in crews:
                if self.named.is_part(other, crew):
                    self.tell(("sure", plan, other), False)
            return
        self.tell(("whole", plan), True)
        for pair in pairs:
            if self.is_true(("belongs", plan, pair)):
                self.tell(("ends", plan, crew, pair), True)
        for other in crews:
            if self.named.is_part(crew, other):
                self.tell(("sure", plan, other), True)

    def from_ends(self, plan, crew, pair, answer):
        if answer is True:
            self.if_all_ended(plan, crew)
        elif self.is_true(("belongs", plan, pair)):
            self.not_ended(plan, crew)

    def not_ended(self, plan, crew):
        """Of some pair that belongs and is not ended by a crew."""
        self.tell(("sure", plan, crew), False)
        if self.named.has_all_live(plan, crew):
            self.tell(("whole", plan), False)

    def if_all_ended(self, plan, crew):
        """Rule (4): a crew that ends each least heap."""
        if not self.is_true(("whole", plan)) or self.is_true(("sure", plan, crew)):
            return
        ended = [pair for pair in self.named.of_plan(plan)[1] if self.is_true(("ends", plan, crew, pair))]
        # No plan has no least heaps: so these are looked for only where something is ended.
        pairs = self.named.least_pairs(plan) if ended else None
        if pairs is not None and all([pair in ended for pair in pairs]):
            self.tell(("sure", plan, crew), True)

    def from_belongs(self, plan, pair, answer):
        if answer is False:
            for carry in range(len(self.named.carries.things)):
                self.no_edition_into(plan, pair, carry)
            return
        crews, _, worths = self.named.of_plan(plan)
        for crew in crews:
            if self.is_true(("sure", plan, crew)):
                self.tell(("ends", plan, crew, pair), True)
            if self.is_false(("ends", plan, crew, pair)):
                self.not_ended(plan, crew)
        for new, carry in self.out_of[plan]:
            self.carry_over(pair, new, carry)
        for carry in range(len(self.named.carries.things)):
            self.no_edition_out_of(plan, pair, carry)
        cases, heap = self.named.pairs.things[pair]
        for asked in worths:
            question = self.named.worths.things[asked]
            if worth_of(self.named.plans.things[plan], question, cases, heap) < 0:
                self.tell(("below", plan, asked), True)

    def carry_over(self, pair, new, carry):
        """Rule (5): an edition leads what belongs to what belongs."""
        target = self.named.target(carry, pair)
        if target is not None:
            self.tell(("belongs", new, target), True)

    def no_edition_into(self, new, target, carry):
        """A pair does not belong: nothing that belongs elsewhere is carried to it by an edition."""
        for pair in range(len(self.named.pairs.things)):
            if self.named.target(carry, pair) == target:
                for old in range(len(self.out_of)):
                    if self.is_true(("belongs", old, pair)) and self.named.fits(old, new, carry):
                        self.tell(("edition", old, new, carry), False)

    def no_edition_out_of(self, old, pair, carry):
        """A pair belongs: no edition carries it to what does not belong elsewhere."""
        target = self.named.target(carry, pair)
        if target is not None:
            for new in range(len(self.out_of)):
                if self.is_false(("belongs", new, target)) and self.named.fits(old, new, carry):
                    self.tell(("edition", old, new, carry), False)

    def from_edition(self, old, new, carry):
        self.tell(("whole", new), True)
        self.out_of[old].append((new, carry))
        self.into[new].append((old, carry))
        for pair in self.named.of_plan(old)[1]:
            if self.is_true(("belongs", old, pair)):
                self.carry_over(pair, new, carry)
        for first, ahead in self.into[old]:
            self.tell_behind(first, new, self.named.both(ahead, carry))
        for last, behind in self.out_of[new]:
            self.tell_behind(old, last, self.named.both(carry, behind))

    def tell_behind(self, old, new, carry):
        """Editions behind one another are one, if the carry of both is named."""
        if carry is not None:
            self.tell(("edition", old, new, carry), True)


def asked_of(facts):
    return [(word, question) for word, question, _ in facts]


def told_by(facts, word, question):
    named = Named([*asked_of(facts), (word, question)])
    key = named.key_of(word, question)
    # What is told outright follows whatever else does.
    for own_word, own_question, answer in facts:
        if named.key_of(own_word, own_question) == key:
            return answer
    return Following(named, facts).answers.get(key)


def place_of(named, key):
    """What facts are put in order by: the word, the texts of the plans, what is left of the question."""
    return key[0], named.texts_of(key), named.left_of(key)


def all_facts(facts):
    named = Named(asked_of(facts))
    answers = Following(named, facts).answers
    rows = sorted([(place_of(named, key), key) for key in answers])
    return tuple([(key[0], named.question_of(key), answers[key]) for _, key in rows])
