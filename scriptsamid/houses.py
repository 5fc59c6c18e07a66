"""Houses: what the people of a house do to it, between upgrades and amid one."""

from scriptsamid.errors import Busy, Idle, NoCell, NotKept, NotLet, NoWord
from scriptsamid.moments import choices_at, ends, first_moment
from scriptsamid.programs import first_words
from scriptsamid.runs import chosen
from scriptsamid.trains import Train, kept_by, reason_by
from scriptsamid.upgrades import Upgrade
from scriptsamid.ways import way


class House:
    """A house of a set of a release.

    release, name, words, moment and history are what the document promises. For the other files of the package there
    are made, the name and the words that it was made with; train, the train of the release; and, amid an upgrade,
    plan, this upgrade, and elder, the words from which it began.
    """

    def __init__(self, release, name, words):
        train = Train(release)
        if words not in kept_by(train, name):
            raise NotKept(words)
        self.release = release
        self.name = name
        self.words = words
        self.moment = None
        self.history = ()
        self.made = (name, words)
        self.train = train
        self.plan = None
        self.elder = words

    def own(self, cell, word):
        """Gives an own cell a word; raises Busy, NoCell, NoWord."""
        self.refuse_busy()
        if cell not in self.release.owned:
            raise NoCell(cell)
        if word not in self.release.words_of[cell]:
            raise NoWord(word)
        place = self.release.cells.index(cell)
        self.words = self.words[:place] + (word,) + self.words[place + 1:]
        self.history = self.history + (("own", cell, word),)

    def upgrade(self, name):
        """Begins a let upgrade to a later set; raises Busy, NoSet, NotLater, NotLet."""
        self.refuse_busy()
        reason = reason_by(self.train, self.name, name)
        if reason is not None:
            raise NotLet(reason)
        self.plan = Upgrade(self.release, self.name, name)
        self.elder = self.words
        self.history = self.history + (("upgrade", name),)
        self.come_to(first_moment(self.words))

    def do(self, choice, stop=None):
        """Does a choice, perhaps stopped at a cut; raises Idle, BadChoice, BadStop."""
        if self.moment is None:
            raise Idle(None)
        moment = chosen(self.plan, self.moment, choice, stop=stop)
        self.history = self.history + (("do", choice, stop),)
        self.come_to(moment)

    def offers(self):
        """Generates the choices of the moment, none if no upgrade is under way."""
        if self.moment is not None:
            yield from choices_at(self.plan, self.moment)

    def wise(self):
        """The choice of a way to any good end from the moment, None if there is none or no upgrade is under way."""
        if self.moment is None:
            return None
        told = way(self.plan, self.elder, moment=self.moment, to="any")
        if told[0] == "lost":
            return None
        return [choice for moment, choice, _ in told[1] if moment == self.moment][0]

    def __contains__(self, x):
        return self.moment is not None and x in choices_at(self.plan, self.moment)

    def trial(self):
        """A context manager that binds a copy, which goes on by itself."""
        return Trial(self)

    def tried(self, look):
        """What look returns of a copy, which goes on by itself."""
        return look(copy_of(self))

    def refuse_busy(self):
        """Raises Busy if an upgrade is under way."""
        if self.moment is not None:
            raise Busy(None)

    def come_to(self, moment):
        """Goes on at a moment of the upgrade; if the moment ends, the upgrade is over."""
        self.words = moment[0]
        self.moment = moment
        if ends(self.plan, moment):
            self.moment = None
            if moment[4] == "on":
                self.name = self.plan.newer


class Trial:
    """A context manager that binds a copy of a house."""

    def __init__(self, house):
        self.house = house

    def __enter__(self):
        return copy_of(self.house)

    def __exit__(self, kind, value, trace):
        return False


def copy_of(house):
    """A house that is as this one is, and goes on by itself."""
    # It is made with words that are surely kept, so that no upgrade has to be looked at again.
    other = House(house.release, house.release.sets[0], first_words(house.release))
    other.name = house.name
    other.words = house.words
    other.moment = house.moment
    other.history = house.history
    other.made = house.made
    other.train = house.train
    other.plan = house.plan
    other.elder = house.elder
    return other
