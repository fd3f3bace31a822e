"""[75] and [76]: journals."""

import itertools
import unittest

from caseshome.errors import InvalidDeed, InvalidOctets, InvalidSize
from caseshome.house import House
from caseshome.houseruns import house_after, same_house
from caseshome.journal import Journal
from caseshome.octets import deed_octets, frame, frames, log_of, opened
from caseshome.plans import Plan
from tests.deeds import PLAN
from tests.helpers import ODD, Case, generator, heap
from tests.model import SORTS
from tests.somedeeds import LINE, MOST, opening, some_deeds

SMALL = Plan(("a", "b"), (("t", (("a", 1),), (("b", 1),)),), "a", "b")


def octets_of(deeds):
    return tuple(octet for deed in deeds for octet in frame(deed_octets(deed)))


def journal_after(deeds, *args):
    journal = Journal(*args)
    for deed in deeds:
        journal.do(deed)
    return journal


class ByHand:
    """A journal worked out anew from its octets each time."""

    def __init__(self, octets, most):
        self.most = most
        self.octets = octets
        self.house, self.place = opened(octets, most)
        self.sure = self.place

    def do(self, deed):
        word = self.house.do(deed)
        if word == "done":
            self.octets = self.octets[:self.place] + frame(deed_octets(deed))
            self.place = len(self.octets)
        return word

    def sync(self):
        self.sure = self.place

    def cut(self, at):
        if not self.sure <= at <= len(self.octets):
            return False
        self.__init__(self.octets[:at], self.most)
        return True


class Journals(Case):
    def test_examples(self):
        journal = Journal()
        words = (journal.do(("plan", "p", SMALL)), journal.do(("floor", "f", "p")), journal.do(("put", "f", 3)), journal.do(("put", "g", 1)))
        size = len(journal.octets())
        self.exact(journal.cut(60), None)
        told = (journal.house().told("f"), journal.house().depth(), len(journal.octets()))
        self.exact((words, size, told, journal.do(("undo",)), len(journal.octets())),
                   (("done", "done", "done", "name"), 67, (("floor", "p", 0, ()), (2, 0), 60), "done", 64))
        journal = Journal()
        words = (journal.do(("plan", "p", SMALL)), journal.do(("floor", "f", "p")), journal.do(("put", "f", 2)),
                 journal.do(("crew", "c", "p", ("t",))), journal.do(("end", "f", "c")))
        house = journal.packed().house()
        self.exact((words, house.depth(), house.deeds()[1:], journal.house().depth()),
                   (("done",) * 5, (4, 0), (("crew", "c", "p", ("t",)), ("floor", "f", "p"), ("lay", "f", 2, (("b", 2),))), (5, 0)))
        journal = Journal((1, 2, 3))
        journal.do(("batch", ()))
        self.exact(journal.sync(), None)
        self.refused(InvalidSize, {"word": "cut"}, journal.cut, 6)

    def test_on_no_octets(self):
        for journal in (Journal(), Journal(()), Journal((), 2000), Journal(octets=(), most=2000), Journal(most=2000)):
            self.exact((journal.octets(), journal.most, journal.house().depth(), journal.cut(0), journal.sync()), ((), 2000, (0, 0), None, None))
            self.exact(journal.do(("undo",)), "nothing")
            self.exact(journal.octets(), ())
            self.assertTrue(same_house(journal.house(), House()))
        self.exact((Journal((), 7).most, Journal((), 7).house().most), (7, 7))

    def test_refusals_in_order(self):
        for value in ([], None, "", 1, frozenset(), [1, 2]):
            self.refused(InvalidOctets, {"at": -1}, Journal, value, 0)
        for wrong in (-1, 256, True, False, None, "1", (1,), 10 ** 30, []):
            self.refused(InvalidOctets, {"at": 0}, Journal, (wrong, wrong), 0)
            self.refused(InvalidOctets, {"at": 2}, Journal, (0, 255, wrong, -1))
        for value in ODD:
            if not isinstance(value, tuple):
                self.refused(InvalidOctets, {"at": -1}, Journal, value)
            elif value and value != (0, ()):
                self.refused(InvalidOctets, {"at": 0}, Journal, value)
        for most in (0, 4001, True, None, "2000"):
            self.refused(InvalidSize, {"word": "most"}, Journal, (0, 255, 7), most)
            self.refused(InvalidSize, {"word": "most"}, Journal, most=most)

    def test_what_is_written(self):
        journal = Journal()
        written = []
        for deed in opening() + [("undo",), ("redo",), ("redo",), ("put", "nn", 1), ("batch", ()), ("step", "f", "c", ()), ("undo",), ("undo",), ("redo",)]:
            if journal.do(deed) == "done":
                written.append(deed)
            self.exact(journal.octets(), octets_of(written))
        self.exact(len(written), len(opening()) + 7)
        self.exact(journal.octets() == log_of(journal.house()), False)
        # A wrong deed raises, and writes nothing.
        for deed in (("put", "f", 0), None, ("undo", 1)):
            self.assertRaises(InvalidDeed, journal.do, deed)
        self.exact(journal.octets(), octets_of(written))
        self.exact((opened(journal.octets(), 2000)[1], same_house(opened(journal.octets(), 2000)[0], journal.house())), (len(journal.octets()), True))

    def test_octets_behind_the_place(self):
        good = octets_of(opening()[:1])
        for behind in ((1, 2, 3), (255,) * 9, frame((5, 5)), octets_of([("put", "f", 1)]), octets_of([("redo",)]), good):
            journal = Journal(good + behind)
            self.exact((journal.octets(), journal.house().depth()), (good + behind, (1, 0)))
            journal.sync()
            # What is not done leaves them; they may be cut as far as the place.
            self.exact((journal.do(("put", "f", 1)), journal.octets()), ("name", good + behind))
            self.refused(InvalidSize, {"word": "cut"}, journal.cut, len(good) - 1)
            self.refused(InvalidSize, {"word": "cut"}, journal.cut, len(good + behind) + 1)
            journal.cut(len(good) + 1)
            self.exact(journal.octets(), good + behind[:1])
            self.refused(InvalidSize, {"word": "cut"}, journal.cut, len(good) + 2)
            self.exact(journal.do(("floor", "f", "p")), "done")
            self.exact(journal.octets(), good + octets_of([("floor", "f", "p")]))
            self.exact(journal.do(("undo",)), "done")
            # The first deed is sure, what was written behind it is not.
            self.refused(InvalidSize, {"word": "cut"}, journal.cut, len(good) - 1)
            journal.cut(len(good))
            self.exact((journal.octets(), journal.house().depth()), (good, (1, 0)))

    def test_sure(self):
        journal = Journal()
        sizes = [0]
        for deed in opening():
            journal.do(deed)
            sizes.append(len(journal.octets()))
            if len(sizes) == 4:
                journal.sync()
        for at in (-1, 0, sizes[3] - 1, sizes[-1] + 1, True, None, "0", (sizes[3],), 10 ** 30):
            self.refused(InvalidSize, {"word": "cut"}, journal.cut, at)
        self.exact(journal.octets(), octets_of(opening()))
        journal.cut(sizes[-1])
        # Behind a cut all of it is sure.
        self.refused(InvalidSize, {"word": "cut"}, journal.cut, sizes[-1] - 1)
        journal.do(("put", "f", 1))
        journal.cut(sizes[-1] + 1)
        self.exact((journal.octets() == octets_of(opening()) + (octets_of([("put", "f", 1)])[0],), journal.house().depth()), (True, (len(opening()), 0)))

    def test_cuts_at_every_place(self):
        deeds = opening() + [("undo",), ("undo",), ("redo",), ("batch", (("put", "f", 1), ("put", "g", 1))), ("undo",)]
        whole = journal_after(deeds)
        octets = whole.octets()
        for at in range(len(octets) + 1):
            journal = journal_after(deeds)
            journal.cut(at)
            house, place = opened(octets[:at], 2000)
            self.exact((journal.octets(), journal.house().depth()), (octets[:at], house.depth()))
            self.assertTrue(same_house(journal.house(), house))
            self.refused(InvalidSize, {"word": "cut"}, journal.cut, place - 1)
            other = Journal(octets[:at])
            self.assertTrue(same_house(other.house(), house))
            self.exact((other.do(("batch", ())), other.octets()), ("done", octets[:place] + octets_of([("batch", ())])))
            self.exact((journal.do(("batch", ())), journal.octets()), ("done", other.octets()))

    def test_by_chance(self):
        cuts = [0, 0]
        for seed in range(220, 232):
            rng = generator(seed)
            begun = octets_of(opening()) + tuple(rng.randint(0, 255) for _ in range(rng.choice((0, 0, 5)))) if seed % 3 else ()
            journal, hand = Journal(begun, MOST), ByHand(begun, MOST)
            for deed in opening() + some_deeds(seed, 120):
                way = rng.random()
                if way < 0.1:
                    journal.sync()
                    hand.sync()
                elif way < 0.25:
                    size = len(hand.octets)
                    at = rng.choice((hand.sure, hand.sure - 1, size, size + 1, rng.randint(0, size), max(0, size - 1)))
                    right = hand.cut(at)
                    cuts[right] += 1
                    if right:
                        self.exact(journal.cut(at), None)
                    else:
                        self.refused(InvalidSize, {"word": "cut"}, journal.cut, at)
                else:
                    self.exact(journal.do(deed), hand.do(deed))
                self.exact(journal.octets(), hand.octets)
                self.assertTrue(same_house(journal.house(), hand.house))
            self.assertTrue(same_house(journal.house(), opened(journal.octets(), MOST)[0]))
        self.assertGreater(min(cuts), 30)

    def test_twins_and_second_journals_share_nothing(self):
        journal = journal_after(opening())
        octets = journal.octets()
        house = journal.house()
        second = Journal(octets)
        house.do(("drop", "d"))
        self.exact((journal.house().names("crew"), journal.octets() == octets), (("c", "d"), True))
        second.do(("put", "f", 1))
        self.exact((journal.octets() == octets, journal.house().told("f")), (True, ("floor", "p", 3, heap(s=3))))
        journal.do(("put", "f", 2))
        self.exact((second.house().told("f"), house.told("f")), (("floor", "p", 4, heap(s=4)), ("floor", "p", 3, heap(s=3))))
        journal.cut(0)
        self.exact((second.house().depth(), house.names("plan"), journal.house().depth()), ((len(opening()) + 1, 0), ("p", "q"), (0, 0)))

    def test_greatest(self):
        journal = Journal((), 4000)
        deeds = [("plan", "p", LINE), ("plan", "q", PLAN), ("floor", "f", "p"), ("crew", "c", "p", ("go", "stop"))]
        for k in range(396):
            deeds.append((("put", "f", 10 ** 9 + k), ("step", "f", "c", (("go", 1000),)), ("undo",), ("batch", (("put", "f", 1),)))[k % 4])
        for deed in deeds:
            self.exact(journal.do(deed), "done")
        size = len(journal.octets())
        for k in range(400):
            journal.cut(size)
            journal.house()
            journal.sync()
        for _ in range(5):
            self.assertTrue(same_house(Journal(journal.octets(), 4000).house(), journal.house()))


class Packed(Case):
    def packed_by_hand(self, house):
        deeds = []
        for sort in SORTS:
            for name in house.names(sort):
                thing = house.told(name)
                if sort == "floor":
                    deeds.append(("floor", name, thing[1]))
                    if thing[2:] != (0, ()):
                        deeds.append(("lay", name) + thing[2:])
                else:
                    deeds.append((sort, name) + thing[1:])
        return deeds

    def test_by_chance(self):
        most_saved = 0
        for seed in range(232, 250):
            journal = journal_after(opening() + some_deeds(seed, 80), (), MOST)
            before = journal.octets()
            packed = journal.packed()
            house, other = journal.house(), packed.house()
            deeds = self.packed_by_hand(house)
            self.exact((packed.octets(), packed.most, other.depth()), (octets_of(deeds), MOST, (len(deeds), 0)))
            for sort in SORTS:
                self.exact(other.names(sort), house.names(sort))
                for name in house.names(sort):
                    self.assertTrue(other.told(name) == house.told(name))
            self.exact(journal.octets(), before)
            self.refused(InvalidSize, {"word": "cut"}, packed.cut, len(packed.octets()) - 1)
            packed.cut(len(packed.octets()))
            self.assertTrue(same_house(packed.packed().house(), other))
            most_saved = max(most_saved, len(frames(before)[0]) - len(deeds))
            # They share nothing.
            packed.do(("batch", ()))
            self.exact(journal.octets(), before)
        self.assertGreater(most_saved, 10)

    def test_edges(self):
        self.exact(Journal((), 9).packed().octets(), ())
        self.exact(Journal((1, 2, 3)).packed().octets(), ())
        journal = journal_after([("plan", "p", LINE), ("floor", "f", "p"), ("put", "f", 1), ("off", "f", heap(s=1))])
        self.exact(journal.packed().octets(), octets_of([("plan", "p", LINE), ("floor", "f", "p")]))
        order = [("plan", "z", LINE), ("plan", "b", LINE), ("floor", "y", "z"), ("floor", "a", "b"), ("crew", "x", "z", ()), ("crew", "c", "b", ()),
                 ("edition", "w", "z", "b", tuple((place, ((place, 1),)) for place in LINE.places)), ("put", "y", 2), ("put", "a", 3)]
        house = journal_after(order).packed().house()
        self.exact([deed[:2] for deed in house.deeds()], [("plan", "b"), ("plan", "z"), ("crew", "c"), ("crew", "x"), ("edition", "w"),
                                                         ("floor", "a"), ("lay", "a"), ("floor", "y"), ("lay", "y")])

    def test_no_row_of_single_deeds_is_shorter(self):
        # All rows of fewer deeds, of all those that could be of use, lead elsewhere.
        deeds = [("plan", "p", SMALL), ("floor", "f", "p"), ("put", "f", 2), ("crew", "c", "p", ("t",)), ("step", "f", "c", (("t", 1),))]
        journal = journal_after(deeds)
        target = journal.house()
        packed = journal.packed().house().deeds()
        self.exact(len(packed), 4)
        useful = list(packed) + deeds + [("end", "f", "c"), ("put", "f", 1), ("batch", ()), ("undo",), ("redo",), ("drop", "c"), ("off", "f", heap(a=1))]
        for row in itertools.product(useful, repeat=3):
            house = house_after(row, 2000)
            same = all(house.names(sort) == target.names(sort) for sort in SORTS)
            self.assertFalse(same and house.told("f") == target.told("f"))


if __name__ == "__main__":
    unittest.main()
