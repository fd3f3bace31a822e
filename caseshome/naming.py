"""What is named in facts and in what is asked: plans, crews, pairs, carries and questions, by numbers."""

from caseshome.closure import live_steps
from caseshome.editions import carried, carry_behind, is_carry
from caseshome.lists import heaps_in, single_lists
from caseshome.plans import names_of
from caseshome.plantext import plan_text
from caseshome.questions import is_question
from caseshome.walks import is_heap_of
from caseshome.weights import kept_weights


class Numbered:
    """Things of one sort with their numbers, by keys that are themselves or, of plans, their texts."""

    def __init__(self):
        self.numbers = {}
        self.keys_told = []
        self.things = []

    def number_for(self, key, thing):
        if key not in self.numbers:
            self.numbers[key] = len(self.things)
            self.keys_told.append(key)
            self.things.append(thing)
        return self.numbers[key]


class Named:
    """All that is named, and what of it is of which plan; first all is named, then it is asked.

    A fact's key is its word, the number of its plan, or of both, and the numbers of what else it has; of "mean" the
    costs themselves, as none are asked but those of the fact.
    """

    def __init__(self, asked):
        self.plans = Numbered()
        self.crews = Numbered()
        self.pairs = Numbered()
        self.carries = Numbered()
        self.worths = Numbered()
        for word, question in asked:
            self.key_of(word, question)
        self._fits = {}
        self._targets = {}
        self._boths = {}
        self._leasts = {}
        self._of_plans = {}

    def plan_number(self, plan):
        return self.plans.number_for(plan_text(plan), plan)

    def key_of(self, word, question):
        if word in ("whole", "weights"):
            return word, self.plan_number(question)
        plan = self.plan_number(question[0])
        if word == "edition":
            return word, plan, self.plan_number(question[1]), self.carries.number_for(question[2], question[2])
        if word == "mean":
            return word, plan, question[1]
        if word == "below":
            return word, plan, self.worths.number_for(question[1], question[1])
        if word in ("belongs", "comes"):
            return word, plan, self.pairs.number_for(question[1:], question[1:])
        crew = self.crews.number_for(question[1], question[1])
        if word == "sure":
            return word, plan, crew
        return word, plan, crew, self.pairs.number_for(question[2:], question[2:])

    def left_of(self, key):
        """What the question of a key has behind its plan or plans."""
        word = key[0]
        if word in ("whole", "weights"):
            return ()
        if word == "edition":
            return (self.carries.things[key[3]],)
        if word == "mean":
            return (key[2],)
        if word == "below":
            return (self.worths.things[key[2]],)
        if word in ("belongs", "comes"):
            return self.pairs.things[key[2]]
        crew = self.crews.things[key[2]]
        return (crew,) if word == "sure" else (crew, *self.pairs.things[key[3]])

    def plan_numbers(self, key):
        return key[1:3] if key[0] == "edition" else key[1:2]

    def texts_of(self, key):
        return tuple([self.plans.keys_told[number] for number in self.plan_numbers(key)])

    def question_of(self, key):
        plans = [self.plans.things[number] for number in self.plan_numbers(key)]
        return plans[0] if key[0] in ("whole", "weights") else (*plans, *self.left_of(key))

    def of_plan(self, plan):
        """The numbers of the crews, the pairs and the questions that are of a plan."""
        if plan not in self._of_plans:
            thing = self.plans.things[plan]
            steps = names_of(thing)
            crews = [at for at, crew in enumerate(self.crews.things) if all([name in steps for name in crew])]
            pairs = [at for at, pair in enumerate(self.pairs.things) if is_heap_of(thing, pair[1])]
            worths = [at for at, asked in enumerate(self.worths.things) if is_question(thing, asked)]
            self._of_plans[plan] = (crews, pairs, worths)
        return self._of_plans[plan]

    def fits(self, old, new, carry):
        key = (old, new, carry)
        if key not in self._fits:
            self._fits[key] = is_carry(self.plans.things[old], self.plans.things[new], self.carries.things[carry])
        return self._fits[key]

    def target(self, carry, pair):
        """The number of what a pair is carried to, None if it cannot be carried or this is not named."""
        key = (carry, pair)
        if key not in self._targets:
            self._targets[key] = self.target_anew(self.carries.things[carry], self.pairs.things[pair])
        return self._targets[key]

    def target_anew(self, carry, pair):
        cases, heap = pair
        places = [place for place, _ in carry]
        if any([place not in places for place, _ in heap]):
            return None
        return self.pairs.numbers.get((cases, carried(carry, heap)))

    def both(self, first, second):
        """The number of the carry by one, then by another one that goes on with it, None if it is not named."""
        key = (first, second)
        if key not in self._boths:
            behind = carry_behind(self.carries.things[first], self.carries.things[second])
            self._boths[key] = self.carries.numbers.get(behind)
        return self._boths[key]

    def live_crew(self, plan):
        """The number of the crew of all live steps, None if it is not named."""
        return self.crews.numbers.get(live_steps(self.plans.things[plan]))

    def has_all_live(self, plan, crew):
        steps = self.crews.things[crew]
        return all([name in steps for name in live_steps(self.plans.things[plan])])

    def is_part(self, crew, other):
        """Whether the other crew has all steps of the one."""
        steps = self.crews.things[other]
        return all([name in steps for name in self.crews.things[crew]])

    def least_pairs(self, plan):
        """The numbers of the least heaps, None if some are not named or the plan has no kept weights."""
        if plan not in self._leasts:
            self._leasts[plan] = self.least_anew(self.plans.things[plan])
        return self._leasts[plan]

    def least_anew(self, plan):
        if kept_weights(plan) is None:
            return None
        numbers = [self.pairs.numbers.get(pair) for pair in heaps_in(plan, single_lists(plan))]
        return None if None in numbers else numbers
