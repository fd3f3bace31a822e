"""The errors of the package."""


class CaseError(Exception):
    """What all errors of the package are, but NoName."""


class InvalidHeap(CaseError):
    """No heap, or no change."""

    def __init__(self, at):
        self.at = at


class InvalidPlan(CaseError):
    """No plan: the word tells which of its four parts is wrong."""

    def __init__(self, word, at):
        self.word = word
        self.at = at


class InvalidText(CaseError):
    """No text of a plan or of a term."""

    def __init__(self, at):
        self.at = at


class InvalidRun(CaseError):
    """No run of a plan."""

    def __init__(self, at):
        self.at = at


class InvalidTerm(CaseError):
    """No term."""

    def __init__(self, place):
        self.place = place


class InvalidCarry(CaseError):
    """No carry of a plan into another one."""

    def __init__(self, at):
        self.at = at


class InvalidDeed(CaseError):
    """No deed of a house."""

    def __init__(self, at):
        self.at = at


class InvalidOctets(CaseError):
    """No octets."""

    def __init__(self, at):
        self.at = at


class InvalidCommand(CaseError):
    """No line that a desk takes."""


class InvalidSize(CaseError):
    """A number, or a word, that is not within its bounds."""

    def __init__(self, word):
        self.word = word


class Refused(CaseError):
    """What is asked is not done; the word tells why."""

    def __init__(self, word):
        self.word = word


class NoName(KeyError):
    """Nothing has this name."""

    def __init__(self, name):
        self.name = name
