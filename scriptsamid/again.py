"""Run again: whether a program that is run from its first command behind each stop ends as without stops."""

from scriptsamid.programs import joined, refuse_program, refuse_words, stops, whole_run
from scriptsamid.values import is_below, is_row


def again(release, program, words):
    """("same", starts) or ("parts", numbers); raises BadProgram, BadWords."""
    refuse_program(release, program)
    refuse_words(release, words)
    end = end_behind(release, program, (words, ()))
    rows = start_rows(release, program, words)
    for start in rows:
        if end_behind(release, program, start) != end:
            return "parts", rows[start]
    return "same", tuple(sorted(rows))


def shows_again(release, program, words, value):
    """Whether any value shows that the program is the same again, or that it is not; raises as again."""
    refuse_program(release, program)
    refuse_words(release, words)
    if not is_row(value, 2):
        return False
    if value[0] == "same":
        return value == again(release, program, words)
    return value[0] == "parts" and is_parted(release, program, words, value[1])


def is_parted(release, program, words, numbers):
    """Whether any value is numbers of cuts behind which a run does not end as the first one does."""
    first = (words, ())
    start = start_behind(release, program, first, numbers)
    if start is None:
        return False
    return end_behind(release, program, start) != end_behind(release, program, first)


def start_rows(release, program, words):
    """All starts, each with the first by size of the rows of numbers of cuts to it; these rows ascend by size."""
    first = (words, ())
    rows = {first: ()}
    layer = [first]
    while layer:
        layer = next_starts(release, program, rows, layer)
    return rows


def next_starts(release, program, rows, layer):
    """The starts that are a cut behind those of a layer and new to rows, which gets them."""
    behind = []
    for start in layer:
        for number, found in enumerate(starts_behind(release, program, start)):
            if found not in rows:
                rows[found] = rows[start] + (number,)
                behind.append(found)
    return behind


def starts_behind(release, program, start):
    """The starts behind the cuts of a run from a start, in the sequence of the cuts."""
    words, wakes = start
    return [(cut, joined(wakes, more)) for cut, more in stops(release, program, words)]


def start_behind(release, program, start, numbers):
    """The start behind cuts with these numbers, each of the run behind the one before; None for any other value."""
    if not isinstance(numbers, tuple):
        return None
    for number in numbers:
        found = starts_behind(release, program, start)
        if not is_below(number, len(found)):
            return None
        start = found[number]
    return start


def end_behind(release, program, start):
    """What is behind a whole run from a start, its wakes joined with those of the start."""
    words, wakes = start
    end, more, failed = whole_run(release, program, words)
    return end, joined(wakes, more), failed
