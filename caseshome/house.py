"""A house: plans, crews, editions and floors of running cases under names, and all that was done there."""

from caseshome.basics import is_integer
from caseshome.deeds import need_deed
from caseshome.editions import carried
from caseshome.errors import InvalidSize, NoName, Refused
from caseshome.judge import Judge
from caseshome.lattice import made_by
from caseshome.lending import ending_by
from caseshome.runs import possible
from caseshome.sums import open_cases, parts_among
from caseshome.works import behind_deed, behind_deeds, hanging_on

SORTS = ("plan", "crew", "edition", "floor")
GREATEST_MOST = 4000


class House:
    def __init__(self, most=2000):
        if not is_integer(most) or not 1 <= most <= GREATEST_MOST:
            raise InvalidSize("most")
        self.most = most
        self._judge = Judge(most)
        # Things by name, as they are told; it is never changed, a deed puts another one in its place.
        self._things = {}
        # Pairs of what was done, or undone, and the things that were there before it, or behind it.
        self._done = []
        self._undone = []

    def do(self, deed):
        need_deed(deed)
        if deed[0] == "undo":
            return self.undo()
        if deed[0] == "redo":
            return self.redo()
        if deed[0] == "batch":
            word, things = behind_deeds(self._judge, self._things, deed[1])
        else:
            word, things = behind_deed(self._judge, self._things, deed)
        if word == "done":
            self._done.append((deed, self._things))
            self._undone = []
            self._things = things
        return word

    def undo(self):
        if not self._done:
            return "nothing"
        deed, before = self._done.pop()
        self._undone.append((deed, self._things))
        self._things = before
        return "done"

    def redo(self):
        if not self._undone:
            return "nothing"
        deed, behind = self._undone.pop()
        self._done.append((deed, self._things))
        self._things = behind
        return "done"

    def depth(self):
        return len(self._done), len(self._undone)

    def deeds(self):
        return tuple([deed for deed, _ in self._done])

    def undone(self):
        """All things undone that can be redone, the next one last."""
        return tuple([deed for deed, _ in self._undone])

    def judge(self):
        return self._judge

    def emptied(self):
        """A new house of the same `most` in which nothing was done, that knows what this one has judged."""
        house = House(self.most)
        house._judge = self._judge
        return house

    def twin(self):
        house = self.emptied()
        house._things = self._things
        house._done = list(self._done)
        house._undone = list(self._undone)
        return house

    def names(self, sort):
        if sort not in SORTS:
            raise NoName(sort)
        return tuple(sorted([name for name in self._things if self._things[name][0] == sort]))

    def told(self, name):
        if name not in self._things:
            raise NoName(name)
        return self._things[name]

    def told_as(self, sort, name):
        """What a name of a sort has."""
        thing = self.told(name)
        if thing[0] != sort:
            raise NoName(name)
        return thing

    def plan_named(self, name):
        return self.told_as("plan", name)[1]

    def hanging(self, name):
        self.told(name)
        return hanging_on(self._things, name)

    def whole_now(self, plan):
        return self._judge.judged(self.plan_named(plan)).verdict

    def heaps_now(self, plan):
        return self._judge.judged(self.plan_named(plan)).pairs

    def edition_now(self, edition):
        _, old, new, carry = self.told_as("edition", edition)
        return self._judge.edition(self.plan_named(old), self.plan_named(new), carry)

    def sure_now(self, crew):
        _, plan, steps = self.told_as("crew", crew)
        return self._judge.sure(self.plan_named(plan), steps)

    def open_now(self, floor):
        _, plan, cases, heap = self.told_as("floor", floor)
        return open_cases(self.plan_named(plan), cases, heap)

    def can_now(self, floor, crew):
        _, plan, _, heap = self.told_as("floor", floor)
        _, crew_plan, steps = self.told_as("crew", crew)
        if crew_plan != plan:
            raise Refused("other")
        return tuple([name for name in possible(self.plan_named(plan), heap) if name in steps])

    def ending_now(self, floor):
        _, plan, _, heap = self.told_as("floor", floor)
        return ending_by(self.whole_now(plan), parts_among(self.heaps_now(plan), heap))

    def made_now(self, floor):
        _, plan, cases, heap = self.told_as("floor", floor)
        return made_by(self.plan_named(plan), cases, heap)

    def carries_now(self, floor):
        return self.carries_from(self.told_as("floor", floor)[1])

    def carries_from(self, plan):
        """The lot of the names of the editions from a plan of a name."""
        return tuple([name for name in self.names("edition") if self._things[name][1] == plan])

    def roads(self, floor):
        _, plan, _, heap = self.told_as("floor", floor)
        found = [(plan, (), heap)]
        there = {plan: True}
        # Plan by plan in the order in which they were found: so shorter rows go ahead, then lesser ones.
        for at in range(len(self.names("plan"))):
            if at == len(found):
                break
            plan, row, heap = found[at]
            for name in self.carries_from(plan):
                _, _, new, carry = self._things[name]
                if new not in there:
                    there[new] = True
                    found.append((new, row + (name,), carried(carry, heap)))
        return tuple(found)
