"""Deeds of a house, as its history tells them, and the lines that they are written in."""

from scriptsamid.forms import is_number, is_spelled

STEP_WORDS = ("leaves", "before", "lay", "gone", "behind")


def lead(house, deed):
    """Does a deed in a house; raises as the house does."""
    if deed[0] == "own":
        house.own(deed[1], deed[2])
    elif deed[0] == "upgrade":
        house.upgrade(deed[1])
    else:
        house.do(deed[1], deed[2])


def deed_text(deed):
    """The line that a deed is written in."""
    return choice_text(deed[1], deed[2]) if deed[0] == "do" else " ".join(deed)


def choice_text(choice, stop):
    """A choice as it is written, with its stop unless that is None."""
    text = choice[0]
    if text == "begin":
        text = f"begin {step_text(choice[1])}"
    elif text == "at":
        text = f"at {choice[1]}"
    return text if stop is None else f"{text} stop {stop}"


def step_text(step):
    """A step as it is written."""
    return ".".join(step)


def read_deed(line):
    """The deed that a line tells, None if it tells none."""
    words = line.split(" ")
    if words[0] == "own":
        return tuple(words) if are_names(words[1:], 2) else None
    if words[0] == "upgrade":
        return tuple(words) if are_names(words[1:], 1) else None
    return read_choice(line)


def read_choice(line):
    """("do", choice, stop) of a line that is a choice, perhaps with a stop; None for another one."""
    words = line.split(" ")
    stop = None
    if len(words) > 2 and words[-2] == "stop" and is_short_number(words[-1]):
        stop = int(words[-1])
        words = words[:-2]
    choice = choice_of(words)
    return None if choice is None else ("do", choice, stop)


def choice_of(words):
    """The choice that is written in these words, None if there is none."""
    if words in (["again"], ["back"], ["turn"]):
        return (words[0],)
    if words[0] == "at" and are_names(words[1:], 1):
        return "at", words[1]
    if words[0] == "begin" and len(words) == 2:
        step = words[1].split(".")
        if len(step) == 2 and is_spelled(step[0]) and step[1] in STEP_WORDS:
            return "begin", tuple(step)
    return None


def are_names(words, many):
    """Whether so many words are spelled as names are."""
    return len(words) == many and all([is_spelled(word) for word in words])


def is_short_number(word):
    """Whether a word is a number in at most four digits without leading zeros."""
    return len(word) <= 4 and is_number(word)
