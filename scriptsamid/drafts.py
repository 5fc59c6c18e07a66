"""What was read of a text so far, and at which line the reading stands."""

from scriptsamid.errors import BadRelease


class Edition:
    """An edition of a package: names that it needs, (cell, word) that it lays, its programs by their names."""

    def __init__(self):
        self.needs = []
        self.lays = []
        self.programs = {}


class Package:
    """A package: its editions, the first one being edition 1, and its at programs by their triggers."""

    def __init__(self):
        self.editions = []
        self.at_programs = {}

    def edition(self, number):
        """The edition with this number, None for None."""
        if number is None:
            return None
        return self.editions[number - 1]

    def all_needs(self):
        """What all of its editions need."""
        return [need for edition in self.editions for need in edition.needs]


class Draft:
    """The parts of a release as they are read, line by line, from its text.

    cells, packages and sets are by their names; rows has a (kind, words) for each line that was read.
    """

    def __init__(self, text):
        self.lines = text.split("\n")
        self.line = 0
        self.rows = []
        self.cells = {}
        self.owned = []
        self.packages = {}
        self.triggers = []
        self.sets = {}

    def line_words(self, depth):
        """The words of the next line behind so many blanks, none if it has fewer or there is no line more."""
        if self.line == len(self.lines) or not self.lines[self.line].startswith(" " * depth):
            return []
        # A blank more, wherever it stands, gives an empty word, which is of no form.
        return self.lines[self.line][depth:].split(" ")

    def take(self, kind, words):
        """Goes on behind the next line, which is of this kind."""
        self.rows.append((kind, words))
        self.line += 1

    def refuse(self):
        """Refuses the next line; its number is that of all lines if there is none more."""
        raise BadRelease(self.line)
