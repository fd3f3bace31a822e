"""A house worked out by the tests themselves, which judges everything anew each time."""

from caseshome.court import Growing, Stuck, Whole, sure, verdict
from caseshome.editions import Edition, edition
from caseshome.lattice import made_by
from caseshome.lists import least_heaps
from caseshome.walks import Led, led
from tests.helpers import as_heap, live_by_hand, step_by_hand, triple_of
from tests.search import belongs_by_hand, ends, joined_by_hand, within_by_hand

SORTS = ("plan", "crew", "edition", "floor")


class Model:
    def __init__(self, most):
        self.most = most
        self.things = {}
        self.done = []
        self.undone = []

    def do(self, deed):
        if deed[0] == "undo":
            if not self.done:
                return "nothing"
            self.undone.append(self.done.pop())
            self.things = self.behind([one for one in self.done])
            return "done"
        if deed[0] == "redo":
            if not self.undone:
                return "nothing"
            self.done.append(self.undone.pop())
            self.things = self.behind(self.done)
            return "done"
        before = dict(self.things)
        for single in deed[1] if deed[0] == "batch" else (deed,):
            word = self.single(single)
            if word != "done":
                self.things = before
                return word
        self.done.append(deed)
        self.undone = []
        return "done"

    def behind(self, deeds):
        """The things behind deeds, all of them done anew."""
        fresh = Model(self.most)
        for deed in deeds:
            assert fresh.do(deed) == "done"
        return fresh.things

    def has(self, sort, name):
        return self.things.get(name, (None,))[0] == sort

    def single(self, deed):
        return getattr(self, "do_" + deed[0])(*deed[1:])

    def do_plan(self, name, plan):
        if name in self.things:
            return "used"
        found = verdict(plan, self.most)
        for kind, word in ((Growing, "growing"), (Stuck, "stuck")):
            if isinstance(found, kind):
                return word
        if not isinstance(found, Whole):
            return "wide"
        self.things[name] = ("plan", plan)
        return "done"

    def do_crew(self, name, plan, steps):
        if name in self.things:
            return "used"
        if not self.has("plan", plan):
            return "name"
        if not set(steps) <= live_by_hand(self.things[plan][1])[1]:
            return "step"
        self.things[name] = ("crew", plan, steps)
        return "done"

    def do_edition(self, name, old, new, carry):
        if name in self.things:
            return "used"
        if not self.has("plan", old) or not self.has("plan", new):
            return "name"
        one, other = self.things[old][1], self.things[new][1]
        if [place for place, _ in carry] != list(one.places) or not all(
                all(place in other.places for place, _ in papers) and (at != one.end or papers == ((other.end, 1),))
                for at, papers in carry):
            return "carry"
        here = live_by_hand(other)[0]
        if not all(place in here for _, papers in carry for place, _ in papers):
            return "living"
        if not isinstance(edition(one, other, carry, self.most), Edition):
            return "edition"
        self.things[name] = ("edition", old, new, carry)
        return "done"

    def do_floor(self, name, plan):
        if name in self.things:
            return "used"
        if not self.has("plan", plan):
            return "name"
        self.things[name] = ("floor", plan, 0, ())
        return "done"

    def do_put(self, floor, number):
        if not self.has("floor", floor):
            return "name"
        _, plan, cases, papers = self.things[floor]
        there = dict(papers)
        start = self.things[plan][1].start
        there[start] = there.get(start, 0) + number
        self.things[floor] = ("floor", plan, cases + number, as_heap(there))
        return "done"

    def do_step(self, floor, crew, run):
        if not self.has("floor", floor) or not self.has("crew", crew):
            return "name"
        _, plan, cases, papers = self.things[floor]
        if self.things[crew][1] != plan:
            return "other"
        if not {name for name, _ in run} <= set(self.things[crew][2]):
            return "step"
        there = dict(papers)
        for name, many in run:
            for _ in range(many):
                there = step_by_hand(there, triple_of(self.things[plan][1], name))
                if there is None:
                    return "papers"
        self.things[floor] = ("floor", plan, cases, as_heap(there))
        return "done"

    def do_off(self, floor, papers):
        if not self.has("floor", floor):
            return "name"
        _, plan, cases, there = self.things[floor]
        if not papers or not within_by_hand(papers, there):
            return "papers"
        if not belongs_by_hand(self.things[plan][1], 1, papers):
            return "class"
        left = {place: number - dict(papers).get(place, 0) for place, number in there}
        self.things[floor] = ("floor", plan, cases - 1, as_heap({place: number for place, number in left.items() if number}))
        return "done"

    def do_carry(self, floor, name):
        if not self.has("floor", floor) or not self.has("edition", name):
            return "name"
        _, plan, cases, papers = self.things[floor]
        _, old, new, carry = self.things[name]
        if old != plan:
            return "other"
        self.things[floor] = ("floor", new, cases, carried_by_hand(carry, papers))
        return "done"

    def do_lay(self, floor, cases, papers):
        if not self.has("floor", floor):
            return "name"
        plan = self.things[floor][1]
        there = self.things[plan][1]
        if not all(place in there.places for place, _ in papers) or not belongs_by_hand(there, cases, papers):
            return "class"
        self.things[floor] = ("floor", plan, cases, papers)
        return "done"

    def do_end(self, floor, crew):
        if not self.has("floor", floor) or not self.has("crew", crew):
            return "name"
        _, plan, cases, papers = self.things[floor]
        if self.things[crew][1] != plan:
            return "other"
        there, steps = self.things[plan][1], self.things[crew][2]
        if len(reached_by_hand(there, steps, papers, self.most)) > self.most:
            return "many"
        if not isinstance(led(there, steps, cases, papers, self.most), Led):
            return "lost"
        self.things[floor] = ("floor", plan, cases, ends(there, cases))
        return "done"

    def do_drop(self, name):
        if name not in self.things:
            return "name"
        if self.hanging(name):
            return "hangs"
        del self.things[name]
        return "done"

    def hanging(self, name):
        named = {"plan": (), "crew": (1,), "edition": (1, 2), "floor": (1,)}
        return tuple(sorted(other for other, thing in self.things.items() if name in [thing[at] for at in named[thing[0]]]))

    def names(self, sort):
        return tuple(sorted(name for name, thing in self.things.items() if thing[0] == sort))

    def roads(self, floor):
        """The first of the shortest rows of editions to each plan, among all rows of no more editions than there are."""
        _, plan, _, papers = self.things[floor]
        best, rows = {}, [((), plan, papers)]
        while rows:
            further = []
            for row, at, there in sorted(rows, key=lambda told: told[0]):
                if at not in best:
                    best[at] = (len(row), row, at, there)
                    for name in self.names("edition"):
                        if self.things[name][1] == at:
                            further.append((row + (name,), self.things[name][2], carried_by_hand(self.things[name][3], there)))
            rows = further
        return tuple((at, row, there) for _, row, at, there in sorted(best.values()))

    def ending(self, floor):
        """The run of [63], by taking the least heaps off one by one."""
        _, plan, _, papers = self.things[floor]
        there = self.things[plan][1]
        endings, rows = verdict(there, self.most).endings, []
        for (_, least), plain in zip(least_heaps(there), endings):
            times = min(dict(papers).get(place, 0) // number for place, number in least)
            if times:
                left = {place: number - times * dict(least).get(place, 0) for place, number in papers}
                papers = as_heap({place: number for place, number in left.items() if number})
                for name in plain:
                    if rows and rows[-1][0] == name:
                        rows[-1] = (name, rows[-1][1] + times)
                    else:
                        rows.append((name, times))
        assert papers == ()
        return tuple(rows)

    def sure(self, crew):
        _, plan, steps = self.things[crew]
        return sure(self.things[plan][1], steps, self.most)

    def edition(self, name):
        _, old, new, carry = self.things[name]
        return edition(self.things[old][1], self.things[new][1], carry, self.most)

    def made(self, floor):
        _, plan, cases, papers = self.things[floor]
        return made_by(self.things[plan][1], cases, papers)


def carried_by_hand(carry, papers):
    heaps = dict(carry)
    found = {}
    for place, number in papers:
        for to, many in heaps[place]:
            found[to] = found.get(to, 0) + number * many
    return as_heap(found)


def reached_by_hand(plan, crew, papers, bound):
    """All heaps that come, or one more than a bound."""
    found, left = {papers: True}, [papers]
    while left and len(found) <= bound:
        there = left.pop()
        for name in crew:
            behind = step_by_hand(dict(there), triple_of(plan, name))
            if behind is not None and as_heap(behind) not in found:
                found[as_heap(behind)] = True
                left.append(as_heap(behind))
                if len(found) > bound:
                    break
    return found


def joined_papers(*heaps):
    return joined_by_hand(heaps)
