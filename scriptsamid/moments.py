"""Moments of runs: which there are, which of them end, and what may be chosen at them.

A moment is (words, steps, woken, opened, heading), heading being what the document calls the way.
"""

from scriptsamid.ahead import ready_numbers
from scriptsamid.errors import BadMoment
from scriptsamid.programs import is_words
from scriptsamid.rows import numbers_of
from scriptsamid.values import is_row
from scriptsamid.wakes import woken_there


def first_moment(words):
    """The moment with which a run from these words begins."""
    return words, (), (), None, "on"


def refuse_moment(upgrade, moment):
    """Raises BadMoment if any value has not the form of a moment of the upgrade."""
    if not is_moment(upgrade, moment):
        raise BadMoment(moment)


def is_moment(upgrade, value):
    """Whether any value has the form of a moment of the upgrade."""
    if not is_row(value, 5) or value[4] not in ("on", "turned"):
        return False
    words, steps, woken, opened, heading = value
    if not is_words(upgrade.release, words) or not is_done(upgrade, steps) or not is_woken(upgrade.release, woken):
        return False
    return opened is None or is_row(opened, 2) and is_opened(upgrade, steps, opened, heading)


def is_done(upgrade, value):
    """Whether any value is steps in the told order, with each one all that must be ahead of it."""
    numbers = numbers_of(upgrade, value)
    if numbers is None or numbers != tuple(sorted(set(numbers))):
        return False
    return all([one in numbers for number in numbers for one in upgrade.ahead[number]])


def is_woken(release, value):
    """Whether any value is an ascending tuple of triggers."""
    if not isinstance(value, tuple) or not all([trigger in release.triggers for trigger in value]):
        return False
    return value == tuple(sorted(set(value)))


def is_opened(upgrade, steps, opened, heading):
    """Whether a pair of any values can be what is open when these steps are done."""
    target, word = opened
    if target in upgrade.steps:
        return target in ready_steps(upgrade, steps) and word in ("cut", "failed", "back")
    if not is_row(target, 2) or target[0] != "at" or target[1] not in upgrade.release.triggers:
        return False
    if not triggers_there(upgrade, (target[1],), heading):
        return False
    return is_settled(upgrade, steps, heading) and word in ("cut", "failed")


def ready_steps(upgrade, steps):
    """The steps that are not done while all that must be ahead of them are, in the told order."""
    numbers = numbers_of(upgrade, steps)
    return [upgrade.steps[number] for number in ready_numbers(upgrade.ahead, numbers)]


def is_settled(upgrade, steps, heading):
    """Whether nothing of the steps is left to do: all are done on the way on, or none when turned."""
    return len(steps) == (len(upgrade.steps) if heading == "on" else 0)


def triggers_there(upgrade, woken, heading):
    """The woken triggers whose packages are there: by the new set on the way on, by the elder one when turned."""
    name = upgrade.newer if heading == "on" else upgrade.elder
    return woken_there(upgrade.release, name, woken)


def triggers_to_run(upgrade, moment):
    """The woken triggers that may run at a moment at which nothing is open."""
    _, steps, woken, _, heading = moment
    return triggers_there(upgrade, woken, heading) if is_settled(upgrade, steps, heading) else ()


def ends(upgrade, moment):
    """Whether a moment ends."""
    _, steps, _, opened, heading = moment
    return opened is None and is_settled(upgrade, steps, heading) and not triggers_to_run(upgrade, moment)


def choices_at(upgrade, moment):
    """The choices of a moment, in the sequence of the document."""
    _, steps, _, opened, heading = moment
    if opened is not None:
        return choices_of_open(opened)
    if ends(upgrade, moment):
        return ()
    found = []
    if heading == "on":
        found.extend([("begin", step) for step in ready_steps(upgrade, steps)])
        found.append(("turn",))
    elif steps:
        found.append(("back",))
    found.extend([("at", trigger) for trigger in triggers_to_run(upgrade, moment)])
    return tuple(found)


def choices_of_open(opened):
    """The choices where a step or a trigger is open."""
    target, word = opened
    found = []
    if word == "cut":
        found.append(("again",))
    if target[0] != "at":
        found.append(("back",))
    return tuple(found)


def place_of(moment):
    """By what moments are sorted: None is less than a tuple, as the empty tuple is less than others."""
    words, steps, woken, opened, heading = moment
    return words, steps, woken, () if opened is None else opened, heading
