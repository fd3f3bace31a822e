"""A journal: a house whose deeds are written as octets, which may be cut off behind what is sure."""

from caseshome.basics import is_integer, is_number
from caseshome.errors import InvalidOctets, InvalidSize
from caseshome.house import SORTS, House
from caseshome.octets import deed_octets, done_at, frame


def need_octets(value):
    if not isinstance(value, tuple):
        raise InvalidOctets(-1)
    for at, octet in enumerate(value):
        if not is_number(octet) or octet > 255:
            raise InvalidOctets(at)


class Journal:
    def __init__(self, octets=(), most=2000):
        need_octets(octets)
        self.most = most
        self._octets = list(octets)
        # The house ahead of the first frame and behind each one, and the places there: a cut goes back to one of them.
        self._houses = [House(most)]
        self._places = [0]
        self.go_on()
        self._sure = self._places[-1]

    def go_on(self):
        """Open the frames behind the last place, as long as their deeds are done."""
        house = self._houses[-1].twin()
        at = done_at(house, self._octets, self._places[-1])
        while at is not None:
            self._houses.append(house)
            self._places.append(at)
            house = house.twin()
            at = done_at(house, self._octets, at)

    def do(self, deed):
        house = self._houses[-1].twin()
        word = house.do(deed)
        if word == "done":
            del self._octets[self._places[-1]:]
            self._octets.extend(frame(deed_octets(deed)))
            self._houses.append(house)
            self._places.append(len(self._octets))
        return word

    def sync(self):
        self._sure = self._places[-1]

    def octets(self):
        return tuple(self._octets)

    def house(self):
        return self._houses[-1].twin()

    def cut(self, at):
        if not is_integer(at) or not self._sure <= at <= len(self._octets):
            raise InvalidSize("cut")
        del self._octets[at:]
        # What was written or opened up to there is opened again; a frame that is cut is none.
        while self._places[-1] > at:
            self._houses.pop()
            self._places.pop()
        self._sure = self._places[-1]

    def packed(self):
        deeds = [deed for sort in SORTS for name in self._houses[-1].names(sort) for deed in self.deeds_for(name)]
        octets = [octet for deed in deeds for octet in frame(deed_octets(deed))]
        return Journal(tuple(octets), self.most)

    def deeds_for(self, name):
        """The deeds that make what a name has, if what it names is there."""
        thing = self._houses[-1].told(name)
        if thing[0] != "floor":
            return [(thing[0], name, *thing[1:])]
        _, plan, cases, heap = thing
        made = [("floor", name, plan)]
        return made if (cases, heap) == (0, ()) else [*made, ("lay", name, cases, heap)]
