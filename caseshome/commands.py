"""The lines of deeds: each deed has one line, each line one deed."""

from caseshome.basics import is_digits, number_of, number_text
from caseshome.deeds import is_deed
from caseshome.errors import InvalidCommand, InvalidText
from caseshome.plantext import plan_text, read_plan


def deed_line(deed):
    word = deed[0]
    if word == "batch":
        lines = "; ".join([deed_line(part) for part in deed[1]])
        return "all" if deed[1] == () else f"all {lines}"
    if word == "plan":
        text = plan_text(deed[2]).replace("\n", " / ")
        return f"plan {deed[1]} {text}"
    if word == "edition":
        head = " ".join(deed[:4])
        return ", ".join([head, *[carried_text(pair) for pair in deed[4]]])
    return " ".join(words_of(deed))


def words_of(deed):
    """The words of the line of a deed that has neither a text nor commas in it."""
    word = deed[0]
    if word == "crew":
        return [*deed[:3], *deed[3]]
    if word == "put":
        return [*deed[:2], number_text(deed[2])]
    if word == "step":
        return [*deed[:3], *row_words(deed[3])]
    if word == "off":
        return [*deed[:2], *row_words(deed[2])]
    if word == "lay":
        return [*deed[:2], number_text(deed[2]), *row_words(deed[3])]
    return list(deed)


def row_words(rows):
    """For each pair (name, number) the name, a number ahead of it where it is above 1."""
    words = []
    for name, number in rows:
        if number > 1:
            words.append(number_text(number))
        words.append(name)
    return words


def carried_text(pair):
    return " ".join([pair[0], "=", *row_words(pair[1])])


def read_deed(line):
    if not isinstance(line, str):
        raise InvalidCommand()
    deed = deed_in(line)
    # Whatever was read out of a line that is none has another line, or is no deed.
    if not is_deed(deed) or deed_line(deed) != line:
        raise InvalidCommand()
    return deed


def deed_in(line):
    """The only deed whose line this can be, None or no deed at all if there is none."""
    if line == "all":
        return "batch", ()
    head, _, rest = line.partition(" ")
    if head == "all":
        return "batch", tuple([single_in(part) for part in rest.split("; ")])
    return single_in(line)


def single_in(line):
    words = line.split(" ")
    if words[0] == "plan":
        return plan_deed_in(line)
    if words[0] == "edition":
        return edition_deed_in(line)
    if words[0] == "crew":
        return (*words[:3], tuple(words[3:]))
    if words[0] == "put":
        return (*words[:2], *[number_in(word) for word in words[2:]])
    if words[0] == "step":
        return (*words[:3], rows_in(words[3:]))
    if words[0] == "off":
        return (*words[:2], rows_in(words[2:]))
    if words[0] == "lay":
        return (*words[:2], *[number_in(word) for word in words[2:3]], rows_in(words[3:]))
    return tuple(words)


def plan_deed_in(line):
    head, _, rest = line.partition(" ")
    name, _, text = rest.partition(" ")
    try:
        return head, name, read_plan(text.replace(" / ", "\n"))
    except InvalidText:
        return None


def edition_deed_in(line):
    first, *others = line.split(", ")
    return (*first.split(" "), tuple([carried_in(part) for part in others]))


def carried_in(text):
    place, *papers = text.split(" ")
    return place, rows_in(papers[1:])


def number_in(word):
    return number_of(word) if is_digits(word) else None


def rows_in(words):
    """The pairs (name, number) of which these are the words, with something else where they are of none."""
    rows = []
    number = 1
    for word in words:
        if is_digits(word):
            number = number_of(word)
        else:
            rows.append((word, number))
            number = 1
    return tuple(rows)
