"""Texts of words, runs and houses, and what is read from them."""

from scriptsamid.deeds import are_names, choice_text, deed_text, lead, read_choice, read_deed
from scriptsamid.errors import BadLine, BadText, ScriptError
from scriptsamid.houses import House


def show_words(words):
    """Words of a house as they are written."""
    return " ".join(words)


def show_run(run):
    """A run as it is written, in one line."""
    if not run:
        return "-"
    return ", ".join([choice_text(choice, stop) for choice, stop in run])


def read_run(text):
    """The run that any value tells; raises BadText."""
    if not isinstance(text, str):
        raise BadText(text)
    if text == "-":
        return ()
    deeds = [read_choice(part) for part in text.split(", ")]
    if None in deeds:
        raise BadText(text)
    return tuple([(choice, stop) for _, choice, stop in deeds])


def show_house(house):
    """The text of a house: what it was made with, and all that was done since."""
    name, words = house.made
    lines = [f"house {name}", f"words {show_words(words)}"]
    return "\n".join(lines + [deed_text(deed) for deed in house.history])


def read_house(release, text):
    """The house that any value tells, led as it tells; raises BadLine."""
    if not isinstance(text, str):
        raise BadLine(0)
    lines = text.split("\n")
    house = house_of(release, lines)
    for number, line in enumerate(lines):
        if number > 1 and not can_lead(house, line):
            raise BadLine(number)
    return house


def house_of(release, lines):
    """The house that the first two lines of a text tell; raises BadLine."""
    head = lines[0].split(" ")
    if head[0] != "house" or not are_names(head[1:], 1) or head[1] not in release.sets:
        raise BadLine(0)
    if len(lines) == 1:
        raise BadLine(1)
    words = lines[1].split(" ")
    if words[0] != "words" or not are_names(words[1:], len(release.cells)):
        raise BadLine(1)
    try:
        return House(release, head[1], tuple(words[1:]))
    except ScriptError:
        raise BadLine(1)


def can_lead(house, line):
    """Does the deed that a line tells, and tells whether it is one and was not refused."""
    deed = read_deed(line)
    if deed is None:
        return False
    try:
        lead(house, deed)
    except ScriptError:
        return False
    return True
