"""Upgrades: the steps from one set of a release to another one, and the orders in which they may be done."""

from scriptsamid.ahead import all_rows, numbers_ahead, pairs_ahead, told_order
from scriptsamid.errors import NoSet, NoStep
from scriptsamid.steps import step_programs, upgrade_steps
from scriptsamid.values import is_row


class Upgrade:
    """An upgrade from the set elder to the set newer.

    release, elder, newer, leanings and steps are what the document promises. For the other files of the package there
    are programs, counters and ahead: for each step, in the told order, its program, its counter-program and the
    numbers of steps that must be ahead of it.
    """

    def __init__(self, release, elder, newer, *, leanings=()):
        for name in (elder, newer):
            if name not in release.sets:
                raise NoSet(name)
        one, other = release.members[elder], release.members[newer]
        steps = upgrade_steps(release.parts, one, other)
        refuse_leanings(steps, leanings)
        pairs = pairs_ahead(release.parts, one, other, steps) + list(leanings)
        self.release = release
        self.elder = elder
        self.newer = newer
        self.steps = told_order(steps, pairs)
        self.leanings = ascending_pairs(self.steps, leanings)
        self.ahead = numbers_ahead(self.steps, pairs)
        both = [programs_of(release, one, other, step) for step in self.steps]
        self.programs = tuple([program for program, _ in both])
        self.counters = tuple([counter for _, counter in both])

    def __eq__(self, other):
        return (
            isinstance(other, Upgrade) and self.release == other.release and self.elder == other.elder
            and self.newer == other.newer and self.leanings == other.leanings
        )

    def orders(self):
        """Generates all orders of the steps that keep the rules, ascending."""
        for row in all_rows(self.ahead):
            yield tuple([self.steps[number] for number in row])

    def program(self, step):
        """The program of a step; raises NoStep."""
        if step not in self.steps:
            raise NoStep(step)
        return self.programs[self.steps.index(step)]

    def counter(self, step):
        """The counter-program of a step, () if it has none; raises NoStep."""
        if step not in self.steps:
            raise NoStep(step)
        return self.counters[self.steps.index(step)]


def refuse_leanings(steps, leanings):
    """Raises NoStep if any value is no tuple of pairs of unlike steps."""
    if not isinstance(leanings, tuple):
        raise NoStep(leanings)
    for pair in leanings:
        if not is_row(pair, 2) or pair[0] not in steps or pair[1] not in steps or pair[0] == pair[1]:
            raise NoStep(pair)


def ascending_pairs(steps, pairs):
    """The pairs of steps by the numbers of their steps, each once."""
    numbers = sorted(set([(steps.index(one), steps.index(other)) for one, other in pairs]))
    return tuple([(steps[one], steps[other]) for one, other in numbers])


def programs_of(release, elder, newer, step):
    """The program and the counter-program of a step of the upgrade from the members elder to the members newer."""
    name, word = step
    package = release.parts[name]
    return step_programs(release.words_of, word, package.edition(elder.get(name)), package.edition(newer.get(name)))
