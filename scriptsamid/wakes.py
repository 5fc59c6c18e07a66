"""Woken triggers, and the at programs that run for them."""

from scriptsamid.errors import Endless, Failed
from scriptsamid.programs import joined, whole_run


def woken_there(release, name, wakes):
    """The triggers among wakes whose packages are in the set with this name."""
    return tuple([trigger for trigger in wakes if release.homes[trigger] in release.members[name]])


def trigger_program(release, trigger):
    """The at program of a trigger of the release."""
    return release.parts[release.homes[trigger]].at_programs[trigger]


def words_behind_wakes(release, name, words, wakes):
    """The words when the at programs of woken triggers ran in the set with this name; raises Failed, Endless."""
    woken = woken_there(release, name, wakes)
    states = []
    ran = []
    while woken:
        if (words, woken) in states:
            raise Endless(tuple(sorted(set(ran[states.index((words, woken)):]))))
        states.append((words, woken))
        trigger = woken[0]
        ran.append(trigger)
        words, more, failed = whole_run(release, trigger_program(release, trigger), words)
        if failed:
            raise Failed(trigger)
        woken = woken_there(release, name, joined(woken[1:], more))
    return words
