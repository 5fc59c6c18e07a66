"""The errors of the package, each with the value that tells what was wrong."""


class ScriptError(ValueError):
    """What all errors of this package derive from."""

    def __init__(self, value):
        self.value = value


class BadRelease(ScriptError):
    """A line of a release is of no form, or cannot stand where it stands; the value is its number."""

    def __init__(self, value):
        self.value = value


class Doubled(ScriptError):
    """A line of a release has a name or word a second time; the value is its number."""

    def __init__(self, value):
        self.value = value


class Unnamed(ScriptError):
    """A line of a release names what there is not, or may not be named there; the value is its number."""

    def __init__(self, value):
        self.value = value


class RingOfNeeds(ScriptError):
    """Packages need each other in a ring; the value is the tuple of their names."""

    def __init__(self, value):
        self.value = value


class TooLarge(ScriptError):
    """The cells of a release have too many words between them; the value is how many."""

    def __init__(self, value):
        self.value = value


class TooMany(ScriptError):
    """An upgrade of a release has too many steps; the value is the greatest number."""

    def __init__(self, value):
        self.value = value


class BadProgram(ScriptError):
    """The value is no program of the release."""

    def __init__(self, value):
        self.value = value


class BadWords(ScriptError):
    """The value is no words of the release."""

    def __init__(self, value):
        self.value = value


class NoProgram(ScriptError):
    """There is no such program; the value is (package, edition, name)."""

    def __init__(self, value):
        self.value = value


class NoSet(ScriptError):
    """The value is no set of the release."""

    def __init__(self, value):
        self.value = value


class NoStep(ScriptError):
    """The value is no step, or no pair of unlike steps."""

    def __init__(self, value):
        self.value = value


class NoOrder(ScriptError):
    """Steps must each be ahead of the next in a ring; the value is the tuple of them."""

    def __init__(self, value):
        self.value = value


class Failed(ScriptError):
    """A program fails; the value is its step or its trigger."""

    def __init__(self, value):
        self.value = value


class Endless(ScriptError):
    """Programs wake each other without end; the value is the tuple of their triggers."""

    def __init__(self, value):
        self.value = value


class BadMoment(ScriptError):
    """The value has not the form of a moment of the upgrade."""

    def __init__(self, value):
        self.value = value


class BadChoice(ScriptError):
    """The value is no choice of the moment."""

    def __init__(self, value):
        self.value = value


class BadStop(ScriptError):
    """The value is neither None nor the number of a cut."""

    def __init__(self, value):
        self.value = value


class NotLater(ScriptError):
    """A set is not later than the one before it; the value is the pair of their names."""

    def __init__(self, value):
        self.value = value


class OtherNames(ScriptError):
    """Two releases have sets or cells of other names; the value is None."""

    def __init__(self, value):
        self.value = value


class NotKept(ScriptError):
    """The value is no kept words of the set."""

    def __init__(self, value):
        self.value = value


class Busy(ScriptError):
    """An upgrade is under way; the value is None."""

    def __init__(self, value):
        self.value = value


class NoCell(ScriptError):
    """The value is no own cell."""

    def __init__(self, value):
        self.value = value


class NoWord(ScriptError):
    """The value is no word of the cell."""

    def __init__(self, value):
        self.value = value


class NotLet(ScriptError):
    """The upgrade is not let; the value is (words, run)."""

    def __init__(self, value):
        self.value = value


class Idle(ScriptError):
    """No upgrade is under way; the value is None."""

    def __init__(self, value):
        self.value = value


class BadText(ScriptError):
    """The value is no text of a run."""

    def __init__(self, value):
        self.value = value


class BadLine(ScriptError):
    """A line cannot be read or is refused; the value is its number or what was handed in."""

    def __init__(self, value):
        self.value = value
