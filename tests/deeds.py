"""Deeds, right and wrong ones, and their lines, worked out by the tests themselves."""

from caseshome.plans import Plan
from tests.helpers import ODD, heap, plan_of

PLAN = Plan(("a", "e", "s"), (("go", (("s", 1),), (("a", 1),)), ("stop", (("a", 1),), (("e", 1),))), "s", "e")
FORK = plan_of("f: s -> 2 a, b\ng: 2 a, b -> e", places=("y", "z"))
BARE = Plan(("a", "b", "c"), (), "c", "a")

# For each word deeds that are right by themselves, and their lines.
LINES = (
    (("plan", "p", PLAN), "plan p start s / end e / step go: s -> a / step stop: a -> e"),
    (("plan", "abcdefgh", FORK), "plan abcdefgh start s / end e / place y / place z / step f: s -> 2 a, b / step g: 2 a, b -> e"),
    (("plan", "plan", BARE), "plan plan start c / end a / place b"),
    (("crew", "c", "p", ("go", "stop")), "crew c p go stop"),
    (("crew", "c", "p", ()), "crew c p"),
    (("crew", "crew", "crew", ("crew",)), "crew crew crew crew"),
    (("edition", "e", "p", "q", (("a", (("b", 2), ("c", 1))), ("d", ()))), "edition e p q, a = 2 b c, d ="),
    (("edition", "e", "p", "p", ()), "edition e p p"),
    (("edition", "e", "p", "q", (("b", heap(x=10 ** 12)), ("a", ()), ("b", heap(y=1)))), "edition e p q, b = 1000000000000 x, a =, b = y"),
    (("floor", "f", "p"), "floor f p"),
    (("put", "f", 3), "put f 3"),
    (("put", "f", 1), "put f 1"),
    (("put", "f", 10 ** 3989), "put f 1" + "0" * 3989),
    (("step", "f", "c", ()), "step f c"),
    (("step", "f", "c", (("t", 1),)), "step f c t"),
    (("step", "f", "c", (("t", 3), ("t", 1), ("a", 2))), "step f c 3 t t 2 a"),
    (("off", "f", ()), "off f"),
    (("off", "f", heap(a=1, b=20)), "off f a 20 b"),
    (("carry", "f", "e"), "carry f e"),
    (("lay", "f", 0, ()), "lay f 0"),
    (("lay", "f", 12, heap(a=2, s=1)), "lay f 12 2 a s"),
    (("end", "f", "c"), "end f c"),
    (("drop", "n"), "drop n"),
    (("undo",), "undo"),
    (("redo",), "redo"),
    (("batch", ()), "all"),
    (("batch", (("put", "f", 3),)), "all put f 3"),
    (("batch", (("drop", "all"), ("off", "f", ()), ("crew", "c", "p", ()), ("plan", "p", PLAN), ("edition", "e", "p", "q", (("a", ()),)), ("drop", "all"))),
     "all drop all; off f; crew c p; plan p start s / end e / step go: s -> a / step stop: a -> e; edition e p q, a =; drop all"),
)

NO_NAMES = ("", "A", "abcdefghi", "a1", "a b", "a_", " a", "a\n", "\u00e9", 1, None, True, ("a",), ["a"])
NO_HEAPS = ((("a", 0),), (("a", -1),), (("a", True),), (("A", 1),), (("b", 1), ("a", 1)), (("a", 1), ("a", 1)), [("a", 1)], (["a", 1],),
            ("a", 1), (("a",),), (("a", 1, 1),), None, "a", 1, (None,))
# For each kind of things some that are wrong by themselves.
WRONG = {
    "name": NO_NAMES,
    "plan": ("p", None, (), (PLAN,), [PLAN], (PLAN.places, PLAN.steps, "s", "e"), 1),
    "lot": (["a"], ("b", "a"), ("a", "a"), ("a", "A"), ("a", 1), "a", None, 1, ("a", ("b",)), (None,)),
    "carry": ([("a", ())], (("a",),), (("a", (), ()),), (["a", ()],), (("A", ()),), (("a", []),), (("a", (("b", 0),)),), "a", None, 1,
              (("a", None),), ((), ("a", ()))),
    "count": (0, -1, True, "1", None, (1,), 1 * [1]),
    "number": (-1, True, False, "0", None, (1,), [1]),
    "run": ([("t", 1)], (("t",),), (("t", 0),), (("t", True),), (("T", 1),), (["t", 1],), "t", None, 1, (("t", 1, 1),), ("t",), ((1, "t"),)),
    "heap": NO_HEAPS,
    "deeds": ([], [("put", "f", 1)], "all", None, 1, (("put", "f", 0),), (("undo",),), (("redo",),), (("batch", ()),), ("put", "f", 1),
              (("put", "f", 1), ("batch", (("put", "f", 1),))), (["put", "f", 1],), ((),), (None,), (("put", "f"),), (("put", "f", 1, 1),)),
}
KINDS = {"plan": ("name", "plan"), "crew": ("name", "name", "lot"), "edition": ("name", "name", "name", "carry"),
         "floor": ("name", "name"), "put": ("name", "count"), "step": ("name", "name", "run"), "off": ("name", "heap"),
         "carry": ("name", "name"), "lay": ("name", "number", "heap"), "end": ("name", "name"), "drop": ("name",),
         "batch": ("deeds",), "undo": (), "redo": ()}


def wrong_deeds():
    """Deeds with wrong things, with the place that is told of each."""
    for value in ODD + (("PLAN", "p", PLAN), ("all", ()), ("name", "p"), (("undo",),), ["undo"], ("undo" * 2,), ("",)):
        if not (isinstance(value, tuple) and value and isinstance(value[0], str) and value[0] in KINDS):
            yield value, -1
    for deed, _ in LINES:
        kinds = KINDS[deed[0]]
        for at, kind in enumerate(kinds):
            for wrong in WRONG[kind]:
                yield deed[:at + 1] + (wrong,) + deed[at + 2:], at + 1
                # A second wrong thing behind it, or too many, or too few: the first place is told.
                yield deed[:at + 1] + (wrong,) + (None,) * (len(kinds) - at), at + 1
                yield deed[:at + 1] + (wrong,), at + 1
        for many in range(len(deed)):
            if many:
                yield deed[:many], many
        for more in (None, (), "a", deed):
            yield deed + (more,), len(deed)
            yield deed + (more, more), len(deed)
        yield list(deed), -1
        yield (list(deed[:1]),) + deed[1:], -1
