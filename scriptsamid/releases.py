"""Releases: the cells of a house, packages with their programs, and sets of packages, read from a text."""

from scriptsamid.errors import BadRelease
from scriptsamid.reading import read_draft
from scriptsamid.refusals import refuse_wrong


class Release:
    """A release that was read from its text.

    text, cells, packages and sets are what the document promises. For the other files of the package there are
    words_of, the words of the cells by their names; owned, the own cells; triggers; homes, the packages of the triggers
    by their names; parts, the packages by their names; and members, for each set the editions of its packages by their
    names.
    """

    def __init__(self, text):
        if not isinstance(text, str):
            raise BadRelease(0)
        draft = read_draft(text)
        refuse_wrong(draft)
        self.text = text
        self.cells = tuple(draft.cells)
        self.packages = tuple(draft.packages)
        self.sets = tuple(draft.sets)
        self.words_of = draft.cells
        self.owned = tuple(draft.owned)
        self.triggers = tuple(draft.triggers)
        self.parts = draft.packages
        self.homes = {trigger: name for name in draft.packages for trigger in draft.packages[name].at_programs}
        self.members = draft.sets

    def __eq__(self, other):
        return isinstance(other, Release) and self.text == other.text
