"""What is judged of plans, crews and editions: once for each of them, however often it is asked."""

from caseshome.court import Growing, Stuck, Whole, sure_over, verdict_over
from caseshome.editions import edition_into
from caseshome.lists import heaps_in, single_lists
from caseshome.plantext import plan_text
from caseshome.weights import kept_weights, of_nothing


class Judged:
    """A plan with its kept weights, its lists and least heaps, if it has weights, and its verdict."""

    def __init__(self, plan, most):
        self.plan = plan
        self.weights = kept_weights(plan)
        self.lists = ()
        self.pairs = ()
        if self.weights is None:
            self.verdict = Growing(of_nothing(plan))
        else:
            self.lists = single_lists(plan)
            self.pairs = heaps_in(plan, self.lists)
            self.verdict = verdict_over(plan, self.pairs, most)

    def is_whole(self):
        return isinstance(self.verdict, Whole)

    def house_word(self):
        """The word that a house has for taking the plan."""
        if isinstance(self.verdict, Growing):
            return "growing"
        if isinstance(self.verdict, Stuck):
            return "stuck"
        return "done" if self.is_whole() else "wide"


class Judge:
    """All that was judged with one `most`. Plans are known by their texts, of which each has its own."""

    def __init__(self, most):
        self.most = most
        self._plans = {}
        self._crews = {}
        self._editions = {}

    def judged(self, plan):
        key = plan_text(plan)
        if key not in self._plans:
            self._plans[key] = Judged(plan, self.most)
        return self._plans[key]

    def sure(self, plan, crew):
        """What is told of a crew of a whole plan."""
        key = (plan_text(plan), crew)
        if key not in self._crews:
            self._crews[key] = sure_over(plan, crew, self.judged(plan).pairs, self.most)
        return self._crews[key]

    def edition(self, old, new, carry):
        """What is told of a living carry into a whole plan."""
        key = (plan_text(old), plan_text(new), carry)
        if key not in self._editions:
            self._editions[key] = edition_into(old, new, carry)
        return self._editions[key]
