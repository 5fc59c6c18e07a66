"""Runs of an upgrade: what the people of the house may choose, and whether all that they choose ends well."""

from scriptsamid.errors import BadChoice, BadStop, Endless, Failed
from scriptsamid.moments import choices_at, ends, first_moment, refuse_moment
from scriptsamid.moves import Moves, ending_moments, first_runs, run_to
from scriptsamid.orders import plain
from scriptsamid.programs import refuse_words
from scriptsamid.values import is_below, is_row


def choices(upgrade, moment):
    """The choices of a moment; raises BadMoment."""
    refuse_moment(upgrade, moment)
    return choices_at(upgrade, moment)


def chosen(upgrade, moment, choice, *, stop=None):
    """The moment behind a choice, perhaps stopped at a cut; raises BadMoment, BadChoice, BadStop."""
    refuse_moment(upgrade, moment)
    if choice not in choices_at(upgrade, moment):
        raise BadChoice(choice)
    results = Moves(upgrade).results(moment, choice)
    if stop is None:
        return results[0]
    if not is_below(stop, len(results) - 1):
        raise BadStop(stop)
    return results[stop + 1]


def good(upgrade, words):
    """None if all runs end well, or can; otherwise the first bad run, () where plain raises; raises BadWords."""
    refuse_words(upgrade.release, words)
    return bad_run(Moves(upgrade), words)


def shows_bad(upgrade, words, value):
    """Whether any value is a run that ends badly or can come to no end, or () where plain raises; raises BadWords."""
    refuse_words(upgrade.release, words)
    if value == ():
        return new_end(upgrade, words) is None
    moves = Moves(upgrade)
    moment = moment_behind(moves, words, value)
    if moment is None:
        return False
    if ends(upgrade, moment):
        return not is_good_end(moment, good_ends(upgrade, words))
    return moment not in ending_moments(moves, first_runs(moves, moment))


def bad_run(moves, words):
    """What good tells of the upgrade of these moves."""
    goals = good_ends(moves.plan, words)
    if "on" not in goals:
        return ()
    found = first_runs(moves, first_moment(words))
    ending = ending_moments(moves, found)
    for moment in found:
        if moment not in ending or ends(moves.plan, moment) and not is_good_end(moment, goals):
            return run_to(found, moment)
    return None


def new_end(upgrade, words):
    """The words at the new end, None if there is no new end."""
    try:
        return plain(upgrade, words)
    except (Failed, Endless):
        return None


def good_ends(upgrade, words):
    """The words at good ends, by the ways of these: the elder end, and the new one if there is one."""
    goals = {"turned": words}
    end = new_end(upgrade, words)
    if end is not None:
        goals["on"] = end
    return goals


def is_good_end(moment, goals):
    """Whether the end at a moment that ends is one of these."""
    return goals.get(moment[4]) == moment[0]


def moment_behind(moves, words, value):
    """The moment behind any value that is a run; None for any other value."""
    if not isinstance(value, tuple):
        return None
    moment = first_moment(words)
    for part in value:
        if not is_row(part, 2) or part[0] not in choices_at(moves.plan, moment):
            return None
        results = moves.results(moment, part[0])
        if part[1] is not None and not is_below(part[1], len(results) - 1):
            return None
        moment = results[0 if part[1] is None else part[1] + 1]
    return moment
