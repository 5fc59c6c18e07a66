"""The errors of the package, each with the value that tells what was wrong."""


class ScriptError(ValueError):
    """What all errors of this package derive from."""

    def __init__(self, value):
        self.value = value


class BadRelease(ScriptError):
    """A line of a release is of no form, or cannot stand where it stands; the value is its number."""


class Doubled(ScriptError):
    """A line of a release has a name or word a second time; the value is its number."""


class Unnamed(ScriptError):
    """A line of a release names what there is not, or may not be named there; the value is its number."""


class RingOfNeeds(ScriptError):
    """Packages need each other in a ring; the value is the tuple of their names."""


class TooLarge(ScriptError):
    """The cells of a release have too many words between them; the value is how many."""


class TooMany(ScriptError):
    """An upgrade of a release has too many steps; the value is the greatest number."""


class BadProgram(ScriptError):
    """The value is no program of the release."""


class BadWords(ScriptError):
    """The value is no words of the release."""


class NoProgram(ScriptError):
    """There is no such program; the value is (package, edition, name)."""


class NoSet(ScriptError):
    """The value is no set of the release."""


class NoStep(ScriptError):
    """The value is no step, or no pair of unlike steps."""


class NoOrder(ScriptError):
    """Steps must each be ahead of the next in a ring; the value is the tuple of them."""


class Failed(ScriptError):
    """A program fails; the value is its step or its trigger."""


class Endless(ScriptError):
    """Programs wake each other without end; the value is the tuple of their triggers."""


class BadMoment(ScriptError):
    """The value has not the form of a moment of the upgrade."""


class BadChoice(ScriptError):
    """The value is no choice of the moment."""


class BadStop(ScriptError):
    """The value is neither None nor the number of a cut."""


class NotLater(ScriptError):
    """A set is not later than the one before it; the value is the pair of their names."""


class OtherNames(ScriptError):
    """Two releases have sets or cells of other names; the value is None."""


class NotKept(ScriptError):
    """The value is no kept words of the set."""


class Busy(ScriptError):
    """An upgrade is under way; the value is None."""


class NoCell(ScriptError):
    """The value is no own cell."""


class NoWord(ScriptError):
    """The value is no word of the cell."""


class NotLet(ScriptError):
    """The upgrade is not let; the value is (words, run)."""


class Idle(ScriptError):
    """No upgrade is under way; the value is None."""


class BadText(ScriptError):
    """The value is no text of a run."""


class BadLine(ScriptError):
    """A line cannot be read or is refused; the value is its number or what was handed in."""
