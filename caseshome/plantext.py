"""The texts of plans: a line for the start, for the end, for each bare place, for each step."""

from caseshome.basics import is_name
from caseshome.errors import InvalidText
from caseshome.heaps import amount, is_heap
from caseshome.plans import Plan

DIGITS = "23456789"


def plan_text(plan):
    used = [plan.start, plan.end, *places_in(plan.steps)]
    lines = [f"start {plan.start}", f"end {plan.end}"]
    lines = lines + [f"place {place}" for place in plan.places if place not in used]
    lines = lines + [step_line(step) for step in plan.steps]
    return "\n".join(lines)


def places_in(steps):
    return [place for step in steps for heap in step[1:] for place, _ in heap]


def step_line(step):
    return f"step {step[0]}: {papers_text(step[1])} -> {papers_text(step[2])}"


def papers_text(heap):
    return ", ".join([place if number == 1 else f"{number} {place}" for place, number in heap])


def read_plan(text):
    if not isinstance(text, str):
        raise InvalidText(-1)
    lines = text.split("\n")
    start = name_behind("start ", lines[0])
    if start is None:
        raise InvalidText(0)
    if len(lines) == 1:
        raise InvalidText(1)
    end = name_behind("end ", lines[1])
    if end is None or end == start:
        raise InvalidText(1)
    bare = []
    steps = []
    for at, line in enumerate(lines[2:]):
        if not take_line(line, start, end, bare, steps):
            raise InvalidText(at + 2)
    places = sorted(set([start, end, *bare, *places_in(steps)]))
    return Plan(tuple(places), tuple(steps), start, end)


def name_behind(word, line):
    name = line[len(word):]
    if not line.startswith(word) or not is_name(name):
        return None
    return name


def take_line(line, start, end, bare, steps):
    """Put the place or the step of a line behind the others; whether the line may stand there."""
    place = name_behind("place ", line)
    if place is not None:
        if steps or place in (start, end) or (bare and place <= bare[-1]):
            return False
        bare.append(place)
        return True
    step = read_step(line)
    if step is None or (steps and step[0] <= steps[-1][0]):
        return False
    # A place with a line of its own is one that no step takes from or lays in.
    if any([used in bare for used in places_in([step])]):
        return False
    if amount(step[1], end) > 0 or amount(step[2], start) > 0:
        return False
    steps.append(step)
    return True


def read_step(line):
    head, _, papers = line.partition(": ")
    take, _, lay = papers.partition(" -> ")
    step = (name_behind("step ", head), read_papers(take), read_papers(lay))
    if None in step or step_line(step) != line:
        return None
    return step


def read_papers(text):
    papers = tuple([read_paper(words) for words in text.split(", ")])
    return papers if is_heap(papers) else None


def read_paper(words):
    number, _, place = words.rpartition(" ")
    if number == "":
        return (place, 1)
    if len(number) == 1 and number in DIGITS:
        return (place, int(number))
    return None
