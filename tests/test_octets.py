"""[72] to [74]: octets, frames, and houses opened on logs."""

import unittest

from caseshome.errors import InvalidSize
from caseshome.house import House
from caseshome.houseruns import house_after, run_house, same_house
from caseshome.octets import (deed_octets, frame, frames, log_of, number_octets, opened, read_number, read_text,
                              sum_of_octets, text_octets)
from tests.deeds import LINES, PLAN
from tests.helpers import Case, generator, heap, plan_of

SIGNS = [chr(code) for code in range(32, 127) if code != 37] + ["\n"]
DEEDS = (("plan", "p", PLAN), ("crew", "c", "p", ("go",)), ("floor", "f", "p"), ("put", "f", 300), ("step", "f", "c", (("go", 7),)),
         ("batch", (("put", "f", 1), ("floor", "g", "p"))), ("lay", "g", 2, heap(a=1, e=1)), ("batch", ()), ("off", "g", heap(e=1)))


def number_by_hand(number):
    figures = []
    while not figures or number:
        number, figure = divmod(number, 128)
        figures.append(figure)
    return tuple(figure + 128 for figure in figures[:-1]) + (figures[-1],)


def sum_by_hand(octets):
    return sum(octet * place for place, octet in zip(range(1, len(octets) + 1), octets)) % 65521


def text_by_hand(text):
    return number_by_hand(len(text)) + tuple(ord(sign) for sign in text)


def frame_by_hand(body):
    total = sum_by_hand(body)
    return number_by_hand(len(body)) + tuple(body) + (total % 256, total // 256)


class Numbers(Case):
    def test_examples(self):
        self.exact((number_octets(0), number_octets(300), read_number((172, 2, 7), 0), read_number((172, 0), 0), text_octets("ab\n"),
                    read_text((0, 3, 97, 98, 10), 1), read_text((1, 37), 0), sum_of_octets((3, 97, 98, 10))),
                   ((0,), (172, 2), (300, 2), None, (3, 97, 98, 10), ("ab\n", 5), None, 531))

    def test_there_and_back(self):
        rng = generator(170)
        numbers = list(range(300)) + [128 ** k + more for k in range(1, 150) for more in (-1, 0, 1)]
        for number in numbers + [rng.getrandbits(rng.randint(1, 900)) for _ in range(400)]:
            octets = self.unchanged(number_octets, number)
            self.exact(octets, number_by_hand(number))
            self.exact(read_number(octets, 0), (number, len(octets)))
            ahead = tuple(rng.randint(0, 255) for _ in range(3))
            self.exact(read_number(ahead + octets + (200,), 3), (number, 3 + len(octets)))
            # One octet less: none stands there.
            self.exact(read_number(octets[:-1], 0), None)

    def test_no_numbers(self):
        for octets in ((), (128,), (255, 255), (128, 0), (255, 0), (129, 128, 0), (128, 128), (128, 0, 5)):
            self.exact(read_number(octets, 0), None)
        self.exact(read_number((0, 0), 0), (0, 1))
        self.exact(read_number((128, 1), 0), (128, 2))
        self.exact(read_number((127,), 0), (127, 1))
        self.exact(read_number((128, 128, 1, 9), 0), (128 * 128, 3))
        for at in (-1, -3, -10 ** 20, 3, 4, 10 ** 20):
            self.exact(read_number((1, 2, 3), at), None)
        self.exact(read_number((1, 2, 3), 2), (3, 3))

    def test_great_numbers(self):
        octets = (255,) * 20000 + (1,)
        for _ in range(20):
            number, place = read_number(octets, 0)
            self.exact((number == 128 ** 20001 // 64 - 1, place), (True, 20001))
            self.exact(number_octets(number) == octets, True)
            self.exact(read_number(octets[:-1] + (0,), 0), None)
            self.exact(frames(octets), ((), 0))
            self.exact(read_text(octets, 0), None)


class Texts(Case):
    def test_there_and_back(self):
        rng = generator(171)
        for at in range(200):
            text = "".join(rng.choice(SIGNS) for _ in range(at if at < 140 else rng.randint(0, 900)))
            octets = self.unchanged(text_octets, text)
            self.exact(octets, text_by_hand(text))
            self.exact(read_text(octets, 0), (text, len(octets)))
            self.exact(read_text((9,) + octets + (65,), 1), (text, 1 + len(octets)))
            for cut in {0, 1, len(octets) // 2, len(octets) - 1} - {len(octets)}:
                self.exact(read_text(octets[:cut], 0), None)
        self.exact((text_octets(""), read_text((0,), 0), read_text((0, 65), 0)), ((0,), ("", 1), ("", 1)))

    def test_each_sign(self):
        for code in range(256):
            sign = chr(code)
            right = sign in SIGNS
            self.exact(read_text((3, 65, code, 66), 0), ("A" + sign + "B", 4) if right else None)
            if right:
                self.exact(text_octets(sign), (1, code))

    def test_places(self):
        for at in (-1, -5, 2, 99, -10 ** 30, 10 ** 30):
            self.exact(read_text((1, 65), at), None)
        self.exact(read_text((1, 65), 1), None)
        self.exact(read_text((128, 0, 65), 0), None)
        self.exact(read_text((5, 65, 65), 0), None)


class Frames(Case):
    def test_examples(self):
        self.exact((frame((7, 0, 255)), frames((3, 7, 0, 255, 4, 3, 1, 9)), frames((0, 0, 0, 1, 5, 5, 0, 9)), deed_octets(("put", "f", 3)),
                    frame(deed_octets(("put", "f", 3)))),
                   ((3, 7, 0, 255, 4, 3), (((7, 0, 255),), 6), (((), (5,)), 7), (7, 112, 117, 116, 32, 102, 32, 51),
                    (8, 7, 112, 117, 116, 32, 102, 32, 51, 146, 9)))

    def test_sums(self):
        rng = generator(172)
        self.exact((sum_of_octets(()), sum_of_octets((255,)), sum_of_octets((0,) * 50), sum_of_octets((1,) * 361)), (0, 255, 0, 361 * 181))
        for many in (1, 5, 400, 60000):
            octets = tuple(rng.randint(0, 255) for _ in range(many))
            self.exact(sum_of_octets(octets), sum_by_hand(octets))

    def test_frames_by_hand(self):
        rng = generator(173)
        for many in (0, 1, 2, 127, 128, 129, 4000):
            body = tuple(rng.randint(0, 255) for _ in range(many))
            self.exact(self.unchanged(frame, body), frame_by_hand(body))
            self.exact(frames(frame(body)), ((body,), len(frame(body))))
        self.exact((frame(()), frames(()), frames((0, 0)), frames((0, 0, 0))), ((0, 0, 0), ((), 0), ((), 0), (((),), 3)))

    def test_cut_at_each_place(self):
        rng = generator(174)
        for _ in range(12):
            bodies = [tuple(rng.choice((0, 1, 128, 255, rng.randint(0, 255))) for _ in range(rng.choice((0, 0, 1, 2, 5, 130)))) for _ in range(6)]
            row, places = (), [0]
            for body in bodies:
                row += frame(body)
                places.append(len(row))
            for at in range(len(row) + 1):
                whole = max(k for k in range(7) if places[k] <= at)
                self.exact(frames(row[:at]), (tuple(bodies[:whole]), places[whole]))

    def test_each_octet_changed(self):
        rng = generator(175)
        bodies = [tuple(rng.randint(0, 255) for _ in range(many)) for many in (3, 0, 7, 200, 2)]
        row, places = (), [0]
        for body in bodies:
            row += frame(body)
            places.append(len(row))
        for at in range(len(row)):
            for more in (1, 2, 128, 255):
                changed = row[:at] + ((row[at] + more) % 256,) + row[at + 1:]
                ahead = max(k for k in range(6) if places[k] <= at)
                found, place = frames(changed)
                self.exact(found[:ahead], tuple(bodies[:ahead]))
                self.assertNotEqual(found[ahead:ahead + 1], (bodies[ahead],))
                length_changed = at < places[ahead] + len(frame(bodies[ahead])) - len(bodies[ahead]) - 2
                if not length_changed:
                    self.exact((found, place), (tuple(bodies[:ahead]), places[ahead]))
                # Whatever is read is a row of frames.
                self.exact(tuple(octet for body in found for octet in frame(body)), changed[:place])

    def test_greatest(self):
        rng = generator(176)
        body = tuple(rng.randint(0, 255) for _ in range(4000))
        row = frame(body) * 14
        nothing = frame(()) * 20000
        for _ in range(10):
            self.exact(frames(row), ((body,) * 14, len(row)))
            self.exact(frames(nothing)[1], 60000)
            self.exact(opened(nothing, 2000)[1], 0)


class Logs(Case):
    def test_deeds(self):
        for deed, line in LINES:
            self.exact(self.unchanged(deed_octets, deed), text_by_hand(line))

    def test_the_whole_log(self):
        for many in range(len(DEEDS) + 1):
            house = house_after(DEEDS[:many], 50)
            log = log_of(house)
            self.exact(log, tuple(octet for deed in DEEDS[:many] for octet in frame_by_hand(deed_octets(deed))))
            other, place = opened(log, 50)
            self.assertTrue(same_house(house, other))
            self.exact((place, other.most, other.depth()), (len(log), 50, (many, 0)))
        self.exact((log_of(House()), opened((), 7)[1], opened((), 7)[0].most), ((), 0, 7))

    def test_what_can_be_redone_is_not_there(self):
        house = house_after(DEEDS + (("undo",), ("undo",)), 2000)
        other, place = opened(log_of(house), 2000)
        self.exact((house.depth(), other.depth(), place), ((7, 2), (7, 0), len(log_of(house))))
        self.assertFalse(same_house(house, other))
        house.do(("floor", "z", "p"))
        self.assertFalse(same_house(house, other))
        other.do(("floor", "z", "p"))
        self.assertTrue(same_house(house, other))

    def test_each_cut(self):
        log = log_of(house_after(DEEDS, 2000))
        places = [0]
        for deed in DEEDS:
            places.append(places[-1] + len(frame(deed_octets(deed))))
        houses = [house_after(DEEDS[:many], 2000) for many in range(len(DEEDS) + 1)]
        for at in range(len(log) + 1):
            whole = max(k for k in range(len(DEEDS) + 1) if places[k] <= at)
            house, place = opened(log[:at], 2000)
            self.exact(place, places[whole])
            self.assertTrue(same_house(house, houses[whole]))

    def test_each_octet_changed(self):
        log = log_of(house_after(DEEDS, 2000))
        places = [0]
        for deed in DEEDS:
            places.append(places[-1] + len(frame(deed_octets(deed))))
        houses = [house_after(DEEDS[:many], 2000) for many in range(len(DEEDS) + 1)]
        for at in range(len(log)):
            for more in (1, 3, 128, 255):
                whole = max(k for k in range(len(DEEDS) + 1) if places[k] <= at)
                house, place = opened(log[:at] + ((log[at] + more) % 256,) + log[at + 1:], 2000)
                self.exact(place, places[whole])
                self.assertTrue(same_house(house, houses[whole]))

    def test_frames_that_are_not_done(self):
        good = frame(deed_octets(("plan", "p", PLAN)))
        after = frame(deed_octets(("floor", "f", "p")))
        for body in (deed_octets(("plan", "p", PLAN)), deed_octets(("put", "f", 1)), text_octets("depth"), text_octets(""), text_octets("undo "), (),
                     deed_octets(("undo",)) + (0,), deed_octets(("undo",))[:-1], (132, 0) + deed_octets(("undo",))[1:], deed_octets(("redo",)),
                     deed_octets(("plan", "q", plan_of("t: 2 s -> 2 e"))), deed_octets(("batch", (("floor", "f", "p"), ("floor", "f", "p")))),
                     (9,), (1, 37), (1, 200), (5,) + deed_octets(("undo",))[1:]):
            house, place = opened(good + frame(body) + after, 2000)
            self.exact((place, house.names("plan"), house.names("floor")), (len(good), ("p",), ()))
            house, place = opened(good + after + frame(body)[:-1], 2000)
            self.exact((place, house.names("floor")), (len(good + after), ("f",)))
        # "undo" and "redo" are deeds that may be done.
        row = good + after + frame(deed_octets(("undo",))) + frame(deed_octets(("redo",))) + frame(deed_octets(("undo",)))
        house, place = opened(row + after, 2000)
        self.exact((place, house.depth(), house.names("floor")), (len(row + after), (2, 0), ("f",)))
        house, place = opened(row, 2000)
        self.exact((place, house.depth(), house.names("floor")), (len(row), (1, 1), ()))

    def test_most(self):
        for most in (0, 4001, -1, True, None, "9", (1,)):
            self.refused(InvalidSize, {"word": "most"}, opened, (), most)
        log = log_of(house_after(DEEDS, 2000))
        # With less the plan is too wide.
        self.exact((opened(log, 2)[1], opened(log, 3)[1]), (0, len(log)))
        self.exact(run_house(DEEDS[:1], 2), ("wide",))

    def test_greatest(self):
        deeds = [("plan", "p", PLAN), ("floor", "f", "p")] + [("put", "f", 10 ** 9 + k) for k in range(398)]
        house = house_after(deeds, 4000)
        log = log_of(house)
        for _ in range(10):
            other, place = opened(log, 4000)
            self.exact((place, other.told("f") == house.told("f")), (len(log), True))
            self.exact(len(frames(log)[0]), 400)


if __name__ == "__main__":
    unittest.main()
