"""Trains: the sets of a release in a row, which upgrades between them are let, and the words that houses have."""

from scriptsamid.errors import NoSet, NotLater, OtherNames
from scriptsamid.moves import Moves
from scriptsamid.orders import plain
from scriptsamid.programs import first_words
from scriptsamid.runs import bad_run
from scriptsamid.upgrades import Upgrade


class Train:
    """The sets of a release and the upgrades from earlier ones to later ones, by the numbers of the sets.

    What was asked once is kept: rows, the kept words of sets; and reasons, why upgrades are not let, None if they are.
    """

    def __init__(self, release):
        self.release = release
        self.rows = {}
        self.reasons = {}

    def kept_words(self, number):
        """The ascending tuple of the kept words of a set."""
        if number not in self.rows:
            found = [first_words(self.release)] if number == 0 else self.new_ends(number)
            self.rows[number] = with_own_words(self.release, found)
        return self.rows[number]

    def new_ends(self, number):
        """The new ends of all let upgrades from earlier sets to a set."""
        found = []
        for earlier in range(number):
            if self.is_let(earlier, number):
                upgrade = self.upgrade_of(earlier, number)
                found.extend([plain(upgrade, words) for words in self.kept_words(earlier)])
        return found

    def upgrade_of(self, one, other):
        """The upgrade from a set to another one."""
        return Upgrade(self.release, self.release.sets[one], self.release.sets[other])

    def is_let(self, one, other):
        """Whether the upgrade from a set to a later one is let."""
        return self.reason(one, other) is None

    def reason(self, one, other):
        """What why_not tells of the upgrade from a set to a later one."""
        if (one, other) not in self.reasons:
            self.reasons[one, other] = first_reason(self.upgrade_of(one, other), self.kept_words(one))
        return self.reasons[one, other]

    def let_pairs(self):
        """The ascending tuple of the pairs of numbers of all let upgrades."""
        many = len(self.release.sets)
        pairs = [(one, other) for one in range(many) for other in range(one + 1, many)]
        return tuple([pair for pair in pairs if self.is_let(pair[0], pair[1])])


def kept(release, name):
    """The words that a house of this set may have, an ascending tuple; raises NoSet."""
    return kept_by(Train(release), name)


def lets(release):
    """The ascending tuple of the pairs of numbers of sets of all let upgrades."""
    return Train(release).let_pairs()


def why_not(release, elder, newer):
    """None if the upgrade is let; otherwise the words and run that show the contrary; raises NoSet, NotLater."""
    return reason_by(Train(release), elder, newer)


def skipped(release):
    """The least (i, j, k, words) with which the upgrade from i to k comes to other words than over j; None for none."""
    train = Train(release)
    pairs = train.let_pairs()
    for one, middle, other in [(one, middle, pair[1]) for one, middle in pairs for pair in pairs if pair[0] == middle]:
        if (one, other) in pairs:
            words = first_skipped(train, one, middle, other)
            if words is not None:
                return one, middle, other, words
    return None


def changed(release, other):
    """The ascending tuple of the pairs of numbers of sets whose upgrade just one of both lets; raises OtherNames."""
    if release.sets != other.sets or release.cells != other.cells:
        raise OtherNames(None)
    here, there = lets(release), lets(other)
    return tuple(sorted([pair for pair in here + there if pair not in here or pair not in there]))


def set_number(release, name):
    """The number of the set with this name, any value; raises NoSet."""
    if name not in release.sets:
        raise NoSet(name)
    return release.sets.index(name)


def kept_by(train, name):
    """What kept tells, by a train of the release."""
    return train.kept_words(set_number(train.release, name))


def reason_by(train, elder, newer):
    """What why_not tells, by a train of the release."""
    one, other = set_number(train.release, elder), set_number(train.release, newer)
    if one >= other:
        raise NotLater((elder, newer))
    return train.reason(one, other)


def first_reason(upgrade, rows):
    """The least of the rows of words from which an upgrade is not good, with its run; ((), ()) without any; or None."""
    if not rows:
        return (), ()
    moves = Moves(upgrade)
    for words in rows:
        run = bad_run(moves, words)
        if run is not None:
            return words, run
    return None


def with_own_words(release, rows):
    """The ascending tuple of rows of words with any words of own cells."""
    for cell in release.owned:
        place = release.cells.index(cell)
        rows = [words[:place] + (word,) + words[place + 1:] for words in rows for word in release.words_of[cell]]
    return tuple(sorted(set(rows)))


def first_skipped(train, one, middle, other):
    """The least kept words of the set one that come to other ones at other straight than over middle; None for none."""
    first, second = train.upgrade_of(one, middle), train.upgrade_of(middle, other)
    straight = train.upgrade_of(one, other)
    for words in train.kept_words(one):
        if plain(straight, words) != plain(second, plain(first, words)):
            return words
    return None
