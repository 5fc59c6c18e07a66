"""Taken back: whether a counter-program takes a program back, wherever both stop, and whether any could."""

from scriptsamid.again import start_behind, start_rows
from scriptsamid.programs import refuse_program, refuse_words, stops, whole_run
from scriptsamid.values import is_below, is_row


def back(release, program, counter, words):
    """("back", some) or ("left", numbers, counters); raises BadProgram of program, then of counter, BadWords."""
    refuse_both(release, program, counter, words)
    found = {}
    layer = [((), 0, words)]
    while layer:
        behind = []
        for place in layer:
            numbers, many, left = place
            if (many > 0, left) in found:
                continue
            found[(many > 0, left)] = True
            if many > 0 and not takes_back(release, counter, left, words):
                return "left", numbers[:many], numbers[many:]
            behind.extend(places_behind(release, program, counter, place))
        # Rows of one length come to this layer by both programs, so only sorting tells the least of them.
        layer = sorted(behind)
    return "back", tuple(sorted([left for counting, left in found if counting]))


def shows_back(release, program, counter, words, value):
    """Whether any value shows that the counter-program takes the program back, or not; raises as back."""
    refuse_both(release, program, counter, words)
    if is_row(value, 2):
        return value == back(release, program, counter, words)
    if not is_row(value, 3) or value[0] != "left":
        return False
    left = left_behind(release, program, words, value[1])
    if left is None:
        return False
    start = start_behind(release, counter, (left, ()), value[2])
    return start is not None and not takes_back(release, counter, start[0], words)


def could(release, program, some):
    """("table", pairs) or ("clash", one, other, left), some an ascending tuple of words; raises BadProgram."""
    refuse_program(release, program)
    pairs = sorted([(left, words) for words in some for left in all_left(release, program, words)])
    for (left, one), (same, other) in zip(pairs, pairs[1:]):
        if left == same:
            return "clash", one, other, left
    return "table", tuple(pairs)


def shows_could(release, program, some, value):
    """Whether any value shows that some rule could take the program back, or that none could; raises as could."""
    refuse_program(release, program)
    if is_row(value, 2):
        return value == could(release, program, some)
    if not is_row(value, 4) or value[0] != "clash":
        return False
    _, one, other, left = value
    if one not in some or other not in some or not one < other:
        return False
    return left in all_left(release, program, one) and left in all_left(release, program, other)


def refuse_both(release, program, counter, words):
    """Raises what is wrong with a program, its counter-program and words."""
    refuse_program(release, program)
    refuse_program(release, counter)
    refuse_words(release, words)


def takes_back(release, counter, left, words):
    """Whether a whole run of the counter-program from what was left ends, not failed, with the words."""
    end, _, failed = whole_run(release, counter, left)
    return end == words and not failed


def places_behind(release, program, counter, place):
    """The places that are one number behind a place of the search.

    A place is (numbers, many, words): the numbers of cuts up to there, how many of them are of runs of the program,
    and the words there; many is 0 while it is the program that runs from there.
    """
    numbers, many, words = place
    if many > 0:
        return [(numbers + (number,), many, cut) for number, cut in enumerate(words_of_cuts(release, counter, words))]
    cut_short = [(numbers + (number,), 0, cut) for number, cut in enumerate(words_of_cuts(release, program, words))]
    left = run_left(release, program, words)
    return cut_short + [(numbers + (number,), len(numbers) + 1, end) for number, end in enumerate(left)]


def words_of_cuts(release, program, words):
    """The words of the cuts of a run."""
    return [cut for cut, _ in stops(release, program, words)]


def run_left(release, program, words):
    """The words that one run leaves: those of its cuts, then those of its end."""
    end, _, _ = whole_run(release, program, words)
    return words_of_cuts(release, program, words) + [end]


def left_behind(release, program, words, numbers):
    """The words that runs of the program leave by these numbers, the last of a cut or an end; None for other values."""
    if not isinstance(numbers, tuple) or len(numbers) == 0:
        return None
    start = start_behind(release, program, (words, ()), numbers[:-1])
    if start is None:
        return None
    left = run_left(release, program, start[0])
    return left[numbers[-1]] if is_below(numbers[-1], len(left)) else None


def all_left(release, program, words):
    """All words that a program leaves, ascending."""
    starts = start_rows(release, program, words)
    return sorted({left for start, _ in starts for left in run_left(release, program, start)})
