"""[71]: rows of deeds, and whether two houses are the same."""

import unittest

from caseshome.errors import InvalidDeed, InvalidSize
from caseshome.house import House
from caseshome.houseruns import house_after, run_house, same_house
from tests.deeds import PLAN
from tests.helpers import Case, heap
from tests.model import SORTS, Model
from tests.somedeeds import FORK, LINE, MOST, opening, some_deeds

OVER = tuple((place, (("e" if place == "e" else "s", 1),)) for place in LINE.places)


class Runs(Case):
    def test_examples(self):
        words = run_house([("plan", "p", PLAN), ("floor", "p", "p"), ("floor", "f", "q"), ("floor", "f", "p"), ("drop", "p"), ("put", "f", 2),
                           ("off", "f", (("a", 1),)), ("lay", "f", 2, (("a", 1),)), ("batch", (("put", "f", 1), ("drop", "g"))), ("undo",),
                           ("undo",), ("redo",), ("redo",), ("redo",)], 2000)
        self.exact(words, ("done", "used", "name", "done", "hangs", "done", "papers", "class", "name", "done", "done", "done", "done", "nothing"))
        carry = (("a", (("s", 1),)), ("e", (("e", 1),)), ("s", (("s", 1),)))
        house = house_after([("plan", "p", PLAN), ("plan", "q", PLAN), ("edition", "x", "p", "q", carry), ("floor", "f", "p"),
                             ("lay", "f", 2, (("a", 1), ("s", 1)))], 2000)
        self.exact((house.carries_now("f"), house.roads("f"), house.hanging("q"), house.depth()),
                   (("x",), (("p", (), (("a", 1), ("s", 1))), ("q", ("x",), (("s", 2),))), ("x",), (5, 0)))
        house = house_after([("plan", "p", PLAN), ("crew", "c", "p", ("stop",)), ("floor", "f", "p"), ("put", "f", 1)], 2000)
        paper = house.sure_now("c")
        self.exact((paper.cases, paper.heap, paper.lot, house.do(("end", "f", "c")), house.told("f")),
                   (1, (("s", 1),), ((("s", 1),),), "lost", ("floor", "p", 1, (("s", 1),))))

    def test_words_by_chance(self):
        for seed in range(200, 206):
            deeds = opening() + some_deeds(seed, 100)
            model = Model(MOST)
            expected = tuple(model.do(deed) for deed in deeds)
            self.exact(self.unchanged(run_house, tuple(deeds), MOST), expected)
            self.exact(run_house(deeds, MOST), expected)
            house = house_after(deeds, MOST)
            self.exact(house.depth(), (len(model.done), len(model.undone)))

    def test_errors(self):
        for function in (run_house, house_after):
            for most in (0, 4001, True, None):
                self.refused(InvalidSize, {"word": "most"}, function, [("undo",)], most)
            self.refused(InvalidDeed, {"at": 2}, function, [("undo",), ("put", "f", 0), ("put", "f")], 9)
            self.refused(InvalidDeed, {"at": -1}, function, [None], 9)
        self.exact((run_house([], 1), run_house((), 1), house_after([], 7).most), ((), (), 7))

    def test_a_house_that_does_the_deeds_of_another_one(self):
        for seed in range(206, 216):
            house = house_after(opening() + some_deeds(seed, 120), MOST)
            other = house_after(house.deeds(), MOST)
            for sort in SORTS:
                self.exact(house.names(sort), other.names(sort))
                for name in house.names(sort):
                    self.assertTrue(house.told(name) == other.told(name))
            self.exact(same_house(house, other), house.depth()[1] == 0)
            self.exact(run_house(house.deeds(), MOST), ("done",) * house.depth()[0])


class Same(Case):
    def differ(self, one, other):
        self.exact((same_house(one, other), same_house(other, one)), (False, False))

    def test_same(self):
        for deeds in ([], opening(), opening() + [("undo",)] * 3, opening() + [("undo",), ("redo",)]):
            one, other = house_after(deeds, 9), house_after(tuple(deeds), 9)
            self.exact((same_house(one, other), same_house(one, one), same_house(one, one.twin())), (True, True, True))

    def test_one_thing_alone(self):
        deeds = opening()
        house = house_after(deeds, 2000)
        self.differ(house, house_after(deeds, 1999))
        self.differ(house, house_after(deeds[:-1], 2000))
        self.differ(house, house_after(deeds + [("batch", ())], 2000))
        self.differ(house, house_after(deeds + [("step", "f", "c", ())], 2000))
        # The same things under another name, or other things under the same one.
        for at, deed in ((0, ("plan", "p", FORK)), (2, ("crew", "b", "p", ("go", "stop"))), (2, ("crew", "c", "p", ("go",))),
                         (5, ("floor", "h", "p")), (7, ("put", "f", 4)), (8, ("lay", "g", 1, heap(s=1))), (8, ("lay", "g", 2, heap(b=1, c=1, s=1)))):
            changed = deeds[:at] + [deed] + deeds[at + 1:]
            words = run_house(changed, 2000)
            self.differ(house, house_after(changed, 2000))
            self.exact(words[at], "done")
        floors = [deed for deed in deeds if deed[0] == "floor"]
        self.differ(house_after(deeds[:5] + floors, 9), house_after(deeds[:5] + floors[::-1], 9))

    def test_the_same_things_done_otherwise(self):
        one = house_after(opening() + [("put", "f", 2)], 2000)
        other = house_after(opening() + [("put", "f", 1), ("put", "f", 1)], 2000)
        self.assertTrue(one.told("f") == other.told("f"))
        self.differ(one, other)
        self.differ(one, house_after(opening() + [("batch", (("put", "f", 2),))], 2000))

    def test_what_is_undone(self):
        deeds = opening()
        one = house_after(deeds + [("undo",)], 2000)
        other = house_after(deeds[:-1], 2000)
        self.differ(one, other)
        third = house_after(deeds[:-1] + [("lay", "g", 2, heap(b=2, c=2)), ("undo",)], 2000)
        self.exact((one.depth(), third.depth()), (third.depth(), one.depth()))
        self.differ(one, third)
        # The same two undone, in another order.
        left = house_after(deeds + [("put", "f", 1), ("put", "g", 1), ("undo",), ("undo",)], 2000)
        right = house_after(deeds + [("put", "g", 1), ("put", "f", 1), ("undo",), ("undo",)], 2000)
        self.differ(left, right)
        self.exact((left.deeds() == right.deeds(), left.told("f") == right.told("f")), (True, True))

    def test_equal_plans_that_were_made_apart(self):
        one = house_after([("plan", "p", LINE)], 9)
        other = house_after([("plan", "p", type(LINE)(LINE.places, LINE.steps, LINE.start, LINE.end))], 9)
        self.exact(same_house(one, other), True)
        self.exact(same_house(House(9), House(9)), True)


if __name__ == "__main__":
    unittest.main()
