"""Section 13 told once more, by its words, for tests that compare; and releases for the tests of it and of houses."""

import itertools

from scriptsamid.orders import plain
from scriptsamid.releases import Release
from scriptsamid.runs import good
from scriptsamid.upgrades import Upgrade
from samples import PB, PL, edition, package, text_of

CELLS = ("cell a x y", "cell b x y")


def row_of(parts, *sets, cells=CELLS):
    """A release with these packages and, behind an empty set called none, these sets."""
    return Release(text_of(cells=cells, packages=[line for part in parts for line in part], sets=["set none", *sets]))


def behind(*commands, back=(), lays=()):
    """An edition with a program behind and its counter-program."""
    return edition(lays=lays, programs=[("behind", *commands)] + ([("back behind", *back)] if back else []))


# From none to two over one a is y when b is set, straight it is not.
OVER = row_of(
    [package("p", behind("set a y", back=["set a x"]), behind("if a = y", "  set b y", back=["set b x"]))],
    "set one p 1", "set two p 2",
)
# No let upgrade leads to one: what its program did is not taken back. From it none is let.
SHUT = row_of(
    [package("p", behind("set a y"), behind("set b y", back=["set b x"]))], "set one p 1", "set two p 2",
)
# The first people may give c any word; the upgrade to one goes well with both, that to two with x alone.
OWN = row_of(
    [
        package("p", behind("copy c to a", back=["set a x"])),
        package("q", edition(programs=[("before", "if c = y", "  fail")])),
    ],
    "set one p 1", "set two q 1", "set three p 1 q 1",
    cells=("cell a x y", "cell b x y", "cell c x y own"),
)
# Two sets that are the same but for their names, and one for which what was laid is taken again.
SAME = row_of([package("p", edition(lays=["a y"]))], "set one p 1", "set more p 1", "set last")
# The people of the house give c and d any words; p lays b in its first edition alone.
HOME = row_of(
    [package("p", behind("copy c to a", back=["set a x"], lays=["b y"]), edition())],
    "set one p 1", "set two p 2", cells=("cell a x y", "cell b x y", "cell c x y own", "cell d x y own"),
)
START = ("x", "x", "x", "x")
BEGIN_LAY, BEGIN_BEHIND = ("begin", PL), ("begin", PB)
# A trigger is woken by the last step.
BELL = row_of([package("p", behind("wake t"), triggers=[("t", "set a y", "set b y")])], "set one p 1")


def state(house):
    """All that is told of a house."""
    return (
        house.release, house.name, house.words, house.moment, house.history, list(house.offers()), house.wise(),
        [choice in house for choice in (("turn",), ("again",), ("back",), BEGIN_LAY, BEGIN_BEHIND, ("at", "t"))],
    )


def own_words(release, words):
    """All words that the people of the house can make of these."""
    cells = [line.split()[1:] for line in release.text.split("\n") if line.startswith("cell ")]
    picks = [cell[1:-1] if cell[-1] == "own" else [word] for cell, word in zip(cells, words)]
    return set(itertools.product(*picks))


class Row:
    """The kept words of all sets and the let upgrades between them."""

    def __init__(self, release):
        self.release = release
        first = tuple(line.split()[2] for line in release.text.split("\n") if line.startswith("cell "))
        self.kept = [own_words(release, first)]
        self.bad = {}
        for number in range(1, len(release.sets)):
            found = set()
            for earlier in range(number):
                upgrade = self.upgrade(earlier, number)
                runs = {words: good(upgrade, words) for words in sorted(self.kept[earlier])}
                self.bad[earlier, number] = [(words, run) for words, run in runs.items() if run is not None]
                if self.is_let(earlier, number):
                    for words in runs:
                        found |= own_words(release, plain(upgrade, words))
            self.kept.append(found)

    def upgrade(self, one, other):
        return Upgrade(self.release, self.release.sets[one], self.release.sets[other])

    def is_let(self, one, other):
        return bool(self.kept[one]) and not self.bad[one, other]

    def why_not(self, one, other):
        if self.is_let(one, other):
            return None
        return self.bad[one, other][0] if self.kept[one] else ((), ())

    def lets(self):
        return tuple(pair for pair in itertools.combinations(range(len(self.release.sets)), 2) if self.is_let(*pair))

    def skipped(self):
        found = []
        for i, j, k in itertools.combinations(range(len(self.release.sets)), 3):
            if self.is_let(i, j) and self.is_let(j, k) and self.is_let(i, k):
                for words in self.kept[i]:
                    over = plain(self.upgrade(j, k), plain(self.upgrade(i, j), words))
                    if plain(self.upgrade(i, k), words) != over:
                        found.append((i, j, k, words))
        return min(found, default=None)
