"""Leanings: the fewest further ones with which no order of an upgrade is bad."""

from itertools import combinations

from scriptsamid.ahead import all_rows, far_ahead
from scriptsamid.errors import Failed
from scriptsamid.programs import refuse_words
from scriptsamid.rows import numbers_of, row_state, steps_of, told_state
from scriptsamid.values import is_ascending, is_row


def fewest(upgrade, words):
    """(pairs, orders): the fewest pairs with which no order is bad, and all bad orders; raises BadWords, Failed."""
    refuse_words(upgrade.release, words)
    rows = bad_rows(upgrade, words, told_state(upgrade, words))
    pairs = fewest_pairs(free_pairs(upgrade.ahead), rows)
    return tuple([steps_of(upgrade, pair) for pair in pairs]), tuple([steps_of(upgrade, row) for row in rows])


def shows_fewest(upgrade, words, value):
    """Whether any value is pairs, as few as can be, and bad orders that no fewer keep out; raises BadWords."""
    refuse_words(upgrade.release, words)
    if not is_row(value, 2):
        return False
    try:
        end = told_state(upgrade, words)
    except Failed:
        # The told order is bad then, and no pairs keep it out.
        return False
    free = free_pairs(upgrade.ahead)
    bad = bad_rows(upgrade, words, end)
    pairs, rows = ascending_among(upgrade, free, value[0]), ascending_among(upgrade, bad, value[1])
    if pairs is None or rows is None or not keep_out(pairs, bad):
        return False
    return len(pairs) == len(fewest_pairs(free, bad)) == len(fewest_pairs(free, rows))


def free_pairs(ahead):
    """The pairs of numbers of steps that can be leanings, ascending: what must be ahead does not put them so yet."""
    far = far_ahead(ahead)
    return [(one, other) for one in range(len(far)) for other in range(one + 1, len(far)) if one not in far[other]]


def bad_rows(upgrade, words, end):
    """The orders, as rows of numbers, that fail or do not come to the end (words, wakes) of the told order."""
    return [row for row in all_rows(upgrade.ahead) if row_state(upgrade, words, row) != end]


def is_turned(pair, row):
    """Whether the second of a pair of numbers stands ahead of the first in a row."""
    return row.index(pair[1]) < row.index(pair[0])


def keep_out(pairs, rows):
    """Whether none of these rows keeps all pairs."""
    return all([any([is_turned(pair, row) for pair in pairs]) for row in rows])


def fewest_pairs(free, rows):
    """As few of the free pairs as keep out all of these bad rows, of these the least."""
    # Each row is told by one number, in which the bits of the pairs that it turns about are set.
    turned = [sum([1 << place for place, pair in enumerate(free) if is_turned(pair, row)]) for row in rows]
    for many in range(len(free)):
        for places in combinations(range(len(free)), many):
            chosen = sum([1 << place for place in places])
            if all([chosen & bits for bits in turned]):
                return [free[place] for place in places]
    # With all of them there is no order but the told one.
    return free


def ascending_among(upgrade, rows, value):
    """The rows of numbers for any value that is an ascending tuple of such rows of steps; None for other values."""
    if not isinstance(value, tuple):
        return None
    found = [numbers_of(upgrade, row) for row in value]
    if not all([row in rows for row in found]) or not is_ascending(found):
        return None
    return found
