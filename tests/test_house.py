"""[64] to [70]: a house."""

import copy
import unittest

from caseshome.court import Sure, Unsure, Whole
from caseshome.editions import Edition, check_edition
from caseshome.errors import InvalidDeed, InvalidSize, NoName, Refused
from caseshome.house import House
from caseshome.lattice import check_made
from caseshome.plans import Plan
from tests.deeds import LINES, PLAN, wrong_deeds
from tests.helpers import ODD, Case, generator, heap, nested, plan_of
from tests.model import SORTS, Model
from tests.search import GREAT, GROWING, STUCK, WHOLE
from tests.somedeeds import FORK, GROWS, LINE, MOST, TWIN, WIDE, carries, opening, some_deeds

OVER = tuple((place, (("e" if place == "e" else "s", 1),)) for place in LINE.places)


def house_of(deeds, most=2000):
    """A house in which all of these deeds are done."""
    house = House(most)
    for deed in deeds:
        assert house.do(deed) == "done", deed
    return house


def opened_up(value):
    """What is in an object, with its sorts."""
    if isinstance(value, (tuple, list)):
        return type(value)(opened_up(part) for part in value)
    if hasattr(value, "__dict__"):
        return (type(value).__name__, tuple((name, opened_up(part)) for name, part in sorted(vars(value).items())))
    return value


def state_of(house):
    """All that a house tells."""
    told = [house.most, house.depth(), house.deeds()]
    for sort in SORTS:
        for name in house.names(sort):
            told.append((sort, name, house.told(name), house.hanging(name)))
    for name in house.names("plan"):
        told.append((house.whole_now(name), house.heaps_now(name)))
    for name in house.names("edition"):
        told.append(house.edition_now(name))
    for name in house.names("crew"):
        told.append(house.sure_now(name))
    for name in house.names("floor"):
        told.append((house.open_now(name), house.ending_now(name), house.made_now(name), house.carries_now(name), house.roads(name)))
    return opened_up(told)


class Deeds(Case):
    def test_examples(self):
        house = House()
        words = (house.do(("plan", "p", PLAN)), house.do(("crew", "c", "p", ("go", "stop"))), house.do(("floor", "f", "p")),
                 house.do(("put", "f", 3)), house.do(("step", "f", "c", (("go", 2),))))
        self.exact((words, house.told("f"), house.open_now("f"), house.can_now("f", "c"), house.ending_now("f")),
                   (("done",) * 5, ("floor", "p", 3, (("a", 2), ("s", 1))), 3, ("go", "stop"), (("stop", 2), ("go", 1), ("stop", 1))))
        self.refused(InvalidDeed, {"at": 2}, House().do, ("lay", "f", -1, ()))

    def test_wrong_by_themselves(self):
        house = house_of(opening())
        before = state_of(house)
        many = 0
        for value, at in wrong_deeds():
            self.refused(InvalidDeed, {"at": at}, house.do, value)
            many += 1
        self.assertGreater(many, 2000)
        self.exact(state_of(house), before)

    def test_any_values(self):
        house = House()
        for value in ODD + (nested(80), PLAN, house, b"undo", ("undo",) * 1 + (nested(79),), ("batch", nested(79)), ("batch", (nested(78),))):
            self.assertRaises(InvalidDeed, house.do, value)
        deep = ("batch", ())
        for _ in range(39):
            deep = ("batch", (deep,))
        self.refused(InvalidDeed, {"at": 1}, house.do, deep)
        self.refused(InvalidDeed, {"at": 1}, house.do, ("undo", None))
        self.exact((house.depth(), house.deeds()), ((0, 0), ()))

    def test_right_by_themselves(self):
        # Whatever is a deed by itself raises nothing.
        for deed, _ in LINES:
            self.assertIn(House().do(deed), ("done", "name", "nothing", "stuck"))

    def test_most(self):
        for most in (0, 4001, -5, True, False, None, "2000", (2000,), [1], 10 ** 30):
            self.refused(InvalidSize, {"word": "most"}, House, most)
            self.refused(InvalidSize, {"word": "most"}, House, most=most)
        self.exact((House().most, House(1).most, House(most=4000).most), (2000, 1, 4000))


class Words(Case):
    def word(self, house, deed, word):
        """A word, and that nothing changes if it is not "done"."""
        before = state_of(house)
        self.exact(house.do(deed), word)
        if word != "done":
            self.exact(state_of(house), before)

    def test_used_goes_ahead_of_all(self):
        house = house_of(opening())
        for name in "pqcdxfg":
            self.word(house, ("plan", name, GROWS), "used")
            self.word(house, ("crew", name, "nn", ("nn",)), "used")
            self.word(house, ("edition", name, "nn", "c", ()), "used")
            self.word(house, ("floor", name, "nn"), "used")

    def test_name_goes_ahead_of_the_rest(self):
        house = house_of(opening())
        for name in ("nn", "c", "x", "f"):
            self.word(house, ("crew", "n", name, ("nn",)), "name")
            self.word(house, ("edition", "n", name, "p", ()), "name")
            self.word(house, ("edition", "n", "p", name, ()), "name")
            self.word(house, ("floor", "n", name), "name")
        for name in ("nn", "c", "x", "p"):
            self.word(house, ("put", name, 1), "name")
            self.word(house, ("step", name, "d", (("nn", 1),)), "name")
            self.word(house, ("off", name, ()), "name")
            self.word(house, ("carry", name, "x"), "name")
            self.word(house, ("lay", name, 1, ()), "name")
            self.word(house, ("end", name, "d"), "name")
        for name in ("nn", "p", "x", "f"):
            self.word(house, ("step", "g", name, (("nn", 1),)), "name")
            self.word(house, ("end", "g", name), "name")
        for name in ("nn", "p", "c", "f"):
            self.word(house, ("carry", "g", name), "name")
        self.word(house, ("drop", "nn"), "name")
        # What a deed makes is there behind it alone.
        self.word(house, ("floor", "n", "n"), "name")
        self.word(house, ("crew", "n", "n", ()), "name")

    def test_hangs(self):
        house = house_of(opening())
        self.word(house, ("drop", "p"), "hangs")
        self.word(house, ("drop", "q"), "hangs")
        for name in "cxf":
            self.word(house, ("drop", name), "done")
        self.word(house, ("drop", "p"), "done")
        self.word(house, ("drop", "p"), "name")
        self.word(house, ("drop", "q"), "hangs")
        self.word(house, ("drop", "d"), "done")
        self.word(house, ("drop", "q"), "hangs")
        self.word(house, ("drop", "g"), "done")
        self.word(house, ("drop", "q"), "done")
        self.exact([house.names(sort) for sort in SORTS], [()] * 4)

    def test_each_thing_alone_hangs(self):
        for deed in (("crew", "c", "p", ()), ("floor", "f", "p"), ("edition", "x", "p", "q", OVER), ("edition", "x", "q", "p", ())):
            house = house_of([("plan", "p", LINE), ("plan", "q", LINE)])
            if deed[0] == "edition":
                deed = deed[:4] + (OVER,)
            self.word(house, deed, "done")
            self.exact(house.hanging("p"), (deed[1],))
            self.word(house, ("drop", "p"), "hangs")
            self.word(house, ("drop", deed[1]), "done")
            self.word(house, ("drop", "p"), "done")

    def test_plans(self):
        for texts, word in ((WHOLE, "done"), (STUCK, "stuck"), (GROWING, "growing")):
            for text in texts:
                self.word(House(), ("plan", "p", plan_of(text)), word)
        self.word(House(8), ("plan", "p", WIDE), "wide")
        self.word(House(9), ("plan", "p", WIDE), "done")
        # What grows is told so, however few heaps may be walked; a lost one ahead of a wide one is stuck.
        self.word(House(1), ("plan", "p", GROWS), "growing")
        self.word(House(1), ("plan", "p", plan_of("t: s -> b\nu: b -> c\nv: c -> e\nw: s -> a")), "stuck")
        self.word(House(2), ("plan", "p", plan_of("t: s -> b\nu: b -> c\nv: c -> e\nw: s -> d")), "wide")

    def test_crews(self):
        house = house_of([("plan", "p", TWIN)])
        self.word(house, ("crew", "c", "p", ("nn", "t")), "step")
        self.word(house, ("crew", "c", "p", ("z",)), "step")
        self.word(house, ("crew", "c", "p", ("t", "z")), "step")
        self.word(house, ("crew", "c", "p", ()), "done")
        self.word(house, ("crew", "d", "p", ("t", "u")), "done")
        self.exact(house.told("d"), ("crew", "p", ("t", "u")))

    def test_editions(self):
        house = house_of([("plan", "p", LINE), ("plan", "q", TWIN)])
        good = tuple((place, heap(e=1) if place == "e" else heap(s=1)) for place in LINE.places)
        for carry in ((), good[:2], good + good[-1:], good[::-1], (("a", heap(s=1)), ("e", heap(s=1)), ("s", heap(s=1))),
                      (("a", heap(s=1)), ("e", heap(e=2)), ("s", heap(s=1))), (("a", heap(zz=1)), ("e", heap(e=1)), ("s", heap(s=1)))):
            self.word(house, ("edition", "x", "p", "q", carry), "carry")
        for carry in ((("a", heap(y=1)), ("e", heap(e=1)), ("s", heap(s=1))), (("a", heap(a=1)), ("e", heap(e=1)), ("s", heap(s=1, y=1)))):
            self.word(house, ("edition", "x", "p", "q", carry), "living")
        for carry in ((("a", heap(a=1)), ("e", heap(e=1)), ("s", heap(s=1))), (("a", heap(s=1)), ("e", heap(e=1)), ("s", heap(s=2))),
                      (("a", ()), ("e", heap(e=1)), ("s", heap(s=1)))):
            self.word(house, ("edition", "x", "p", "q", carry), "edition")
        for at, carry in enumerate((good, (("a", heap(a=2)), ("e", heap(e=1)), ("s", heap(a=2))), (("a", heap(e=1)), ("e", heap(e=1)), ("s", heap(s=1))))):
            self.word(house, ("edition", "xyz"[at], "p", "q", carry), "done")
            self.exact(house.told("xyz"[at]), ("edition", "p", "q", carry))
        self.word(house, ("edition", "n", "p", "p", OVER), "done")

    def test_steps(self):
        house = house_of(opening())
        self.word(house, ("step", "f", "d", (("nn", 1),)), "other")
        self.word(house, ("step", "f", "c", (("go", 9), ("nn", 1))), "step")
        self.word(house, ("step", "g", "d", (("h", 1),)), "step")
        self.word(house, ("step", "f", "c", (("go", 4),)), "papers")
        self.word(house, ("step", "f", "c", (("stop", 1), ("go", 1))), "papers")
        self.word(house, ("step", "f", "c", (("go", 3), ("stop", 2), ("go", 1))), "papers")
        self.word(house, ("step", "f", "c", (("go", 1), ("go", 1), ("stop", 2))), "done")
        self.exact(house.told("f"), ("floor", "p", 3, heap(e=2, s=1)))
        self.word(house, ("step", "f", "c", ()), "done")
        self.exact((house.told("f"), house.depth()), (("floor", "p", 3, heap(e=2, s=1)), (len(opening()) + 2, 0)))

    def test_off(self):
        house = house_of(opening())
        self.word(house, ("off", "f", ()), "papers")
        self.word(house, ("off", "f", heap(s=4)), "papers")
        self.word(house, ("off", "f", heap(zz=1)), "papers")
        self.word(house, ("off", "f", heap(s=2)), "class")
        self.word(house, ("off", "g", heap(b=1)), "class")
        self.word(house, ("off", "g", heap(b=1, c=1)), "done")
        self.exact(house.told("g"), ("floor", "q", 0, ()))
        self.word(house, ("off", "g", heap(b=1, c=1)), "papers")
        self.word(house, ("off", "f", heap(s=1)), "done")
        self.exact(house.told("f"), ("floor", "p", 2, heap(s=2)))
        # A case that is ended may be taken away, too.
        house.do(("step", "f", "c", (("go", 1), ("stop", 1))))
        self.word(house, ("off", "f", heap(e=1)), "done")
        self.exact(house.told("f"), ("floor", "p", 1, heap(s=1)))

    def test_lay(self):
        house = house_of(opening())
        for cases, papers in ((2, heap(a=1)), (0, heap(a=1)), (1, ()), (1, heap(zz=1)), (1, heap(a=1, zz=1)), (10 ** 12, heap(a=1))):
            self.word(house, ("lay", "f", cases, papers), "class")
        for cases, papers in ((0, ()), (2, heap(a=1, s=1)), (10 ** 12, heap(e=10 ** 12)), (3, heap(a=1, e=1, s=1))):
            self.word(house, ("lay", "f", cases, papers), "done")
            self.exact(house.told("f"), ("floor", "p", cases, papers))

    def test_carry(self):
        house = house_of(opening())
        self.word(house, ("carry", "g", "x"), "other")
        house.do(("step", "f", "c", (("go", 2), ("stop", 1))))
        self.word(house, ("carry", "f", "x"), "done")
        self.exact(house.told("f"), ("floor", "q", 3, heap(e=1, s=2)))
        self.word(house, ("carry", "f", "x"), "other")
        # Plans of other names are other ones, though they are equal.
        self.word(house, ("plan", "r", LINE), "done")
        self.word(house, ("floor", "h", "r"), "done")
        self.word(house, ("carry", "h", "x"), "other")
        self.word(house, ("step", "h", "c", ()), "other")
        self.word(house, ("end", "h", "c"), "other")

    def test_end(self):
        house = house_of(opening(), 20)
        self.word(house, ("end", "f", "d"), "other")
        self.word(house, ("crew", "b", "p", ("go",)), "done")
        self.word(house, ("end", "f", "b"), "lost")
        self.word(house, ("lay", "f", 6, heap(s=6)), "done")
        self.word(house, ("end", "f", "c"), "many")
        # Fewer heaps: 7 by one step alone.
        self.word(house, ("end", "f", "b"), "lost")
        self.word(house, ("lay", "f", 19, heap(s=19)), "done")
        self.word(house, ("end", "f", "b"), "lost")
        self.word(house, ("lay", "f", 20, heap(s=20)), "done")
        self.word(house, ("end", "f", "b"), "many")
        self.word(house, ("lay", "f", 3, heap(a=1, s=2)), "done")
        self.word(house, ("end", "f", "c"), "done")
        self.exact(house.told("f"), ("floor", "p", 3, heap(e=3)))
        self.word(house, ("end", "f", "b"), "done")
        self.word(house, ("lay", "f", 0, ()), "done")
        self.word(house, ("end", "f", "b"), "done")
        self.exact(house.told("f"), ("floor", "p", 0, ()))
        self.word(house, ("end", "g", "d"), "done")
        self.exact(house.told("g"), ("floor", "q", 1, heap(e=1)))

    def test_just_as_many_as_most(self):
        for most, word in ((14, "many"), (15, "done")):
            house = house_of([("plan", "p", LINE), ("crew", "c", "p", ("go", "stop")), ("floor", "f", "p"), ("put", "f", 4)], most)
            self.word(house, ("end", "f", "c"), word)

    def test_put(self):
        house = house_of(opening())
        self.word(house, ("put", "f", 10 ** 12), "done")
        self.exact(house.told("f"), ("floor", "p", 3 + 10 ** 12, heap(s=3 + 10 ** 12)))
        self.word(house, ("put", "g", 1), "done")
        self.exact(house.told("g"), ("floor", "q", 2, heap(b=1, c=1, s=1)))
        # A floor with cases may be dropped.
        self.word(house, ("drop", "g"), "done")


class Going(Case):
    def test_batches(self):
        house = house_of(opening())
        before = state_of(house)
        self.exact(house.do(("batch", (("put", "f", 1), ("floor", "h", "p"), ("put", "h", 2), ("drop", "n")))), "name")
        self.exact(house.do(("batch", (("put", "f", 1), ("plan", "h", GROWS), ("drop", "n")))), "growing")
        self.exact(house.do(("batch", (("drop", "c"), ("step", "f", "c", ())))), "name")
        self.exact(state_of(house), before)
        # Each finds what those ahead left.
        self.exact(house.do(("batch", (("plan", "h", TWIN), ("floor", "i", "h"), ("put", "i", 2), ("drop", "i"), ("drop", "h")))), "done")
        self.exact(house.deeds()[-1][0], "batch")
        self.exact(house.depth(), (len(opening()) + 1, 0))
        self.exact(house.do(("batch", ())), "done")
        self.exact(house.depth(), (len(opening()) + 2, 0))
        self.exact(house.do(("batch", (("put", "f", 1), ("put", "f", 1)))), "done")
        self.exact(house.told("f"), ("floor", "p", 5, heap(s=5)))
        self.exact(house.do(("undo",)), "done")
        self.exact(house.told("f"), ("floor", "p", 3, heap(s=3)))

    def test_undo_and_redo(self):
        deeds = opening()
        house = House()
        states = [state_of(house)]
        for deed in deeds:
            house.do(deed)
            states.append(state_of(house))
        self.exact(house.do(("redo",)), "nothing")
        for many in range(len(deeds), 0, -1):
            self.exact(house.do(("undo",)), "done")
            self.exact((house.depth(), house.deeds()), ((many - 1, len(deeds) - many + 1), tuple(deeds[:many - 1])))
            self.exact(state_of(house)[2:], states[many - 1][2:])
        self.exact(house.do(("undo",)), "nothing")
        for many in range(1, len(deeds) + 1):
            self.exact(house.do(("redo",)), "done")
            self.exact(state_of(house)[2:], states[many][2:])
        self.exact(house.do(("redo",)), "nothing")
        self.exact(state_of(house), states[-1])

    def test_a_deed_ends_what_can_be_redone(self):
        for deed in (("put", "f", 1), ("batch", ()), ("step", "f", "c", ()), ("batch", (("put", "f", 1),))):
            house = house_of(opening())
            house.do(("undo",))
            house.do(("undo",))
            # What is not done ends nothing.
            self.exact(house.do(("put", "nn", 1)), "name")
            self.exact(house.do(("batch", (("put", "f", 1), ("drop", "p")))), "hangs")
            self.assertRaises(InvalidDeed, house.do, ("put", "f", 0))
            self.exact(house.depth(), (len(opening()) - 2, 2))
            self.exact(house.do(deed), "done")
            self.exact((house.do(("redo",)), house.depth()), ("nothing", (len(opening()) - 1, 0)))
            self.exact(house.do(("undo",)), "done")
            self.exact((house.do(("redo",)), house.do(("redo",))), ("done", "nothing"))

    def test_twins(self):
        house = house_of(opening())
        house.do(("undo",))
        before = state_of(house)
        twin = house.twin()
        self.exact(state_of(twin), before)
        self.assertIs(type(twin), House)
        twin.do(("redo",))
        twin.do(("drop", "d"))
        self.exact(state_of(house), before)
        kept = state_of(twin)
        house.do(("undo",))
        house.do(("put", "f", 7))
        self.exact(state_of(twin), kept)
        self.exact((house.depth(), twin.depth()), ((len(opening()) - 1, 0), (len(opening()) + 1, 0)))
        self.exact(House(7).twin().most, 7)

    def test_the_house_goes_on_but_what_it_told_stays(self):
        house = House(MOST)
        kept = []
        for deed in opening() + some_deeds(180, 150):
            handed = copy.deepcopy(deed)
            house.do(deed)
            self.exact(opened_up(deed), opened_up(handed))
            told = [house.deeds(), house.depth()] + [house.told(name) for sort in SORTS for name in house.names(sort)]
            told += [house.roads(name) for name in house.names("floor")] + [house.whole_now(name) for name in house.names("plan")]
            kept.append((told, copy.deepcopy(told)))
        for told, copied in kept:
            self.exact(opened_up(told), opened_up(copied))

    def test_by_chance_against_a_house_that_judges_anew(self):
        counts = {}
        for seed in range(181, 197):
            house, model = House(MOST), Model(MOST)
            for deed in opening() + some_deeds(seed, 160):
                before = house.twin()
                word = house.do(deed)
                self.exact(word, model.do(deed))
                counts[(deed[0], word)] = counts.get((deed[0], word), 0) + 1
                self.same_as_model(house, model)
                if word != "done":
                    self.exact(state_of(house), state_of(before))
            self.now_as_model(house, model)
        for pair in (("plan", "done"), ("plan", "used"), ("plan", "stuck"), ("plan", "growing"), ("plan", "wide"), ("crew", "done"), ("crew", "used"),
                     ("crew", "name"), ("crew", "step"), ("edition", "done"), ("edition", "used"), ("edition", "name"), ("edition", "carry"),
                     ("edition", "living"), ("edition", "edition"), ("floor", "done"), ("floor", "used"), ("floor", "name"), ("put", "done"),
                     ("put", "name"), ("step", "done"), ("step", "name"), ("step", "other"), ("step", "step"), ("step", "papers"), ("off", "done"),
                     ("off", "papers"), ("off", "class"), ("off", "name"), ("carry", "done"), ("carry", "name"), ("carry", "other"), ("lay", "done"),
                     ("lay", "name"), ("lay", "class"), ("end", "done"), ("end", "name"), ("end", "other"), ("end", "lost"), ("end", "many"), ("drop", "done"),
                     ("drop", "name"), ("drop", "hangs"), ("batch", "done"), ("batch", "name"), ("batch", "used"), ("undo", "done"), ("redo", "done"),
                     ("redo", "nothing")):
            self.assertIn(pair, counts)

    def same_as_model(self, house, model):
        self.exact(house.depth(), (len(model.done), len(model.undone)))
        self.exact(opened_up(house.deeds()), opened_up(tuple(model.done)))
        for sort in SORTS:
            self.exact(house.names(sort), model.names(sort))
        for name, thing in model.things.items():
            self.exact(opened_up(house.told(name)), opened_up(thing))
            self.exact(house.hanging(name), model.hanging(name))

    def now_as_model(self, house, model):
        for name in model.names("crew"):
            self.exact(opened_up(house.sure_now(name)), opened_up(model.sure(name)))
        for name in model.names("edition"):
            self.exact(opened_up(house.edition_now(name)), opened_up(model.edition(name)))
        for name in model.names("floor"):
            _, plan, cases, papers = model.things[name]
            self.exact(house.roads(name), model.roads(name))
            self.exact(house.ending_now(name), model.ending(name))
            self.exact(house.open_now(name), cases - dict(papers).get(model.things[plan][1].end, 0))
            self.assertTrue(check_made(model.things[plan][1], cases, papers, house.made_now(name)))
            self.exact(house.carries_now(name), tuple(one for one in model.names("edition") if model.things[one][1] == plan))


class Now(Case):
    def test_plans(self):
        house = house_of([("plan", "p", LINE), ("plan", "q", FORK)])
        self.assertTrue(house.whole_now("p") == Whole((("stop",), (), ("go", "stop"))))
        self.exact(house.heaps_now("p"), ((1, heap(a=1)), (1, heap(e=1)), (1, heap(s=1))))
        self.assertTrue(house.whole_now("q") == Whole((("g",), ("k",), (), ("f", "g"))))

    def test_crews_and_editions(self):
        house = house_of(opening() + [("crew", "b", "p", ("stop",))])
        self.assertTrue(house.sure_now("c") == Sure((("stop",), (), ("go", "stop"))))
        self.assertTrue(house.sure_now("b") == Unsure(1, heap(s=1), (heap(s=1),)))
        found = house.edition_now("x")
        self.assertIs(type(found), Edition)
        self.assertTrue(check_edition(LINE, FORK, OVER, found))

    def test_floors(self):
        house = house_of(opening() + [("crew", "b", "p", ("stop",)), ("crew", "n", "p", ())])
        self.exact((house.can_now("f", "c"), house.can_now("f", "b"), house.can_now("f", "n")), (("go",), (), ()))
        house.do(("step", "f", "c", (("go", 1),)))
        self.exact((house.can_now("f", "c"), house.can_now("f", "b")), (("go", "stop"), ("stop",)))
        self.refused(Refused, {"word": "other"}, house.can_now, "f", "d")
        self.refused(Refused, {"word": "other"}, house.can_now, "g", "c")
        self.exact((house.open_now("f"), house.open_now("g")), (3, 1))
        house.do(("step", "f", "c", (("stop", 1),)))
        self.exact((house.open_now("f"), house.ending_now("f")), (2, (("go", 2), ("stop", 2))))
        house.do(("lay", "f", 0, ()))
        self.exact((house.open_now("f"), house.ending_now("f"), house.can_now("f", "c")), (0, (), ()))

    def test_no_names(self):
        house = house_of(opening())
        for sort, name in (("plan", "p"), ("crew", "c"), ("edition", "x"), ("floor", "f")):
            asks = {"plan": (house.whole_now, house.heaps_now), "crew": (house.sure_now,), "edition": (house.edition_now,),
                    "floor": (house.open_now, house.ending_now, house.made_now, house.carries_now, house.roads)}
            for other in SORTS:
                for ask in asks[other]:
                    if other != sort:
                        self.refused(NoName, {"name": name}, ask, name)
                    else:
                        ask(name)
            for ask in asks[sort] + (house.told, house.hanging):
                for wrong in ("nn", "", "P", "plan"):
                    self.refused(NoName, {"name": wrong}, ask, wrong)
        for floor, crew, name in (("nn", "mm", "nn"), ("f", "mm", "mm"), ("c", "f", "c"), ("f", "f", "f"), ("c", "c", "c"), ("p", "c", "p"), ("g", "p", "p")):
            self.refused(NoName, {"name": name}, house.can_now, floor, crew)
        for sort in ("plans", "", "Plan", "p"):
            self.refused(NoName, {"name": sort}, house.names, sort)

    def test_hanging(self):
        house = house_of(opening())
        self.exact((house.hanging("p"), house.hanging("q"), house.hanging("c"), house.hanging("x"), house.hanging("f")),
                   (("c", "f", "x"), ("d", "g", "x"), (), (), ()))
        house.do(("edition", "y", "p", "p", OVER))
        self.exact(house.hanging("p"), ("c", "f", "x", "y"))

    def test_roads(self):
        deeds = [("plan", name, LINE) for name in "pqrtu"]
        same = tuple((place, ((place, 1),)) for place in LINE.places)
        editions = [("y", "p", "q", same), ("x", "p", "q", OVER), ("a", "p", "r", same), ("b", "r", "t", OVER), ("c", "q", "t", same),
                    ("d", "t", "p", OVER), ("f", "p", "p", OVER), ("g", "t", "q", OVER)]
        house = house_of(deeds + [("edition",) + one for one in editions] + [("floor", "o", "p"), ("lay", "o", 2, heap(a=1, s=1))])
        self.exact(house.carries_now("o"), ("a", "f", "x", "y"))
        self.exact(house.roads("o"), (("p", (), heap(a=1, s=1)), ("r", ("a",), heap(a=1, s=1)), ("q", ("x",), heap(s=2)),
                                      ("t", ("a", "b"), heap(s=2))))
        house.do(("drop", "b"))
        self.exact(house.roads("o")[3], ("t", ("x", "c"), heap(s=2)))
        house.do(("drop", "x"))
        self.exact(house.roads("o")[2:], (("q", ("y",), heap(a=1, s=1)), ("t", ("y", "c"), heap(a=1, s=1))))
        house.do(("carry", "o", "a"))
        self.exact((house.roads("o"), house.carries_now("o")), ((("r", (), heap(a=1, s=1)),), ()))
        house.do(("floor", "n", "u"))
        self.exact((house.roads("n"), house.carries_now("n")), ((("u", (), ()),), ()))

    def test_roads_by_chance(self):
        rng = generator(192)
        longest = 0
        for _ in range(60):
            model, house = Model(2000), House()
            deeds = [("plan", name, rng.choice((LINE, LINE, TWIN, FORK))) for name in "pqrtu"]
            for name in rng.sample("abcdefghijkl", 9):
                one, other = rng.choice(deeds[:5]), rng.choice(deeds[:5])
                deeds.append(("edition", name, one[1], other[1], carries(one[2], other[2])[0]))
            deeds += [("floor", "z", "p"), ("put", "z", 3)]
            for deed in deeds:
                self.exact(house.do(deed), model.do(deed))
            found = house.roads("z")
            self.exact(found, model.roads("z"))
            longest = max(longest, max(len(row) for _, row, _ in found))
        self.assertGreater(longest, 2)

    def test_greatest(self):
        names = [one + two for one in "abcd" for two in "abcdefghijkl"]
        house = House(2003)
        self.exact(house.do(("plan", names[0], GREAT)), "done")
        for k in range(1, 12):
            self.exact(house.do(("plan", names[k], GREAT)), "done")
        same = tuple((place, ((place, 1),)) for place in GREAT.places)
        for k in range(12):
            self.exact(house.do(("crew", names[12 + k], names[k], tuple(step[0] for step in GREAT.steps))), "done")
            self.exact(house.do(("edition", names[24 + k], names[k], names[(k + 1) % 12], same)), "done")
            self.exact(house.do(("floor", names[36 + k], names[k])), "done")
            self.exact(house.do(("put", names[36 + k], 10 ** 12)), "done")
        for k in range(12):
            self.exact(len(house.roads(names[36 + k])), 12)
            self.exact(type(house.sure_now(names[12 + k])), Sure)
            self.exact(house.ending_now(names[36 + k])[-1][0], "fe")
        for _ in range(20):
            batch = ("batch", tuple(("put", names[36 + k % 12], 10 ** 9) for k in range(16)))
            self.exact(house.do(batch), "done")
            self.exact(house.do(("end", names[36], names[12])), "many")
            self.exact(house.do(("undo",)), "done")
        self.exact(Plan, type(house.told(names[0])[1]))


if __name__ == "__main__":
    unittest.main()
