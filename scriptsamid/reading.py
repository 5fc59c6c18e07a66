"""Reads the lines of a release in their sequence, up to the first that cannot stand where it stands."""

from scriptsamid.drafts import Draft, Edition, Package
from scriptsamid.forms import PROGRAM_NAMES, edition_number, fits, is_cell_line, is_plain_command, is_set_line


def read_draft(text):
    """The draft of a whole text; raises BadRelease."""
    draft = Draft(text)
    read_several(read_cell, draft, 1, 6)
    read_several(read_package, draft, 1, 3)
    read_several(read_set, draft, 1, 4)
    if draft.line < len(draft.lines):
        draft.refuse()
    return draft


def read_several(read, draft, least, most):
    """Reads as often as it can, at most so often; read tells whether the next line was one of its own."""
    count = 0
    while count < most and read(draft):
        count += 1
    if count < least:
        draft.refuse()


def read_cell(draft):
    """Reads a cell, if the next line is one."""
    words = draft.line_words(0)
    if not is_cell_line(words):
        return False
    draft.take("cell", words)
    if words[-1] == "own":
        draft.owned.append(words[1])
        words = words[:-1]
    draft.cells[words[1]] = tuple(words[2:])
    return True


def read_package(draft):
    """Reads a package with all that is below it, if the next line is one."""
    words = draft.line_words(0)
    if not fits(words, "package NAME"):
        return False
    draft.take("package", words)
    package = Package()
    read_several(lambda rest: read_edition(rest, package), draft, 1, 3)
    read_several(lambda rest: read_trigger(rest, package), draft, 0, 2)
    draft.packages[words[1]] = package
    return True


def read_edition(draft, package):
    """Reads the next edition of a package with all that is below it, if the next line is one."""
    words = draft.line_words(2)
    if words != ["edition", str(len(package.editions) + 1)]:
        return False
    draft.take("edition", words)
    edition = Edition()
    read_several(lambda rest: read_need(rest, edition), draft, 0, 2)
    read_several(lambda rest: read_laid(rest, edition), draft, 0, 3)
    read_several(lambda rest: read_program(rest, edition), draft, 0, 8)
    package.editions.append(edition)
    return True


def read_need(draft, edition):
    """Reads a need of an edition, if the next line is one."""
    words = draft.line_words(4)
    if not fits(words, "needs NAME"):
        return False
    draft.take("needs", words)
    edition.needs.append(words[1])
    return True


def read_laid(draft, edition):
    """Reads a cell that an edition lays, if the next line is one."""
    words = draft.line_words(4)
    if not fits(words, "lays NAME NAME"):
        return False
    draft.take("lays", words)
    edition.lays.append((words[1], words[2]))
    return True


def read_program(draft, edition):
    """Reads a program of an edition, if the next line is the name of one."""
    words = draft.line_words(4)
    name = " ".join(words)
    if name not in PROGRAM_NAMES:
        return False
    draft.take("program", words)
    edition.programs[name] = read_commands(draft, 6, 6, 2)
    return True


def read_trigger(draft, package):
    """Reads an at program of a package, if the next line is the head of one and the release may have one more."""
    words = draft.line_words(2)
    if not fits(words, "at NAME") or len(draft.triggers) == 3:
        return False
    draft.take("at", words)
    draft.triggers.append(words[1])
    package.at_programs[words[1]] = read_commands(draft, 4, 6, 2)
    return True


def read_commands(draft, depth, most, ifs):
    """Reads the commands at this depth, one at least; ifs may stand so deep in one another there."""
    commands = []
    while len(commands) < most:
        command = read_command(draft, depth, ifs)
        if command is None:
            break
        commands.append(command)
    if not commands:
        draft.refuse()
    return tuple(commands)


def read_command(draft, depth, ifs):
    """Reads a command with all that belongs to it; None if the next line is none."""
    words = draft.line_words(depth)
    if is_plain_command(words):
        command = tuple([word for word in words if word != "to"])
        draft.take("command", command)
        return command
    if ifs > 0 and fits(words, "if NAME = NAME"):
        draft.take("if", words)
        return read_if(draft, depth, ifs - 1, words)
    return None


def read_if(draft, depth, ifs, words):
    """Reads both parts of an if, whose own line has these words."""
    first = read_commands(draft, depth + 2, 4, ifs)
    second = ()
    if draft.line_words(depth) == ["else"]:
        draft.take("else", ["else"])
        second = read_commands(draft, depth + 2, 4, ifs)
    return ("if", words[1], words[3], first, second)


def read_set(draft):
    """Reads a set, if the next line is one that may stand there."""
    words = draft.line_words(0)
    if not is_set_line(words) or not in_sequence(list(draft.packages), words[2::2]):
        return False
    if not draft.sets and len(words) > 2:
        return False
    draft.take("set", words)
    draft.sets[words[1]] = {
        name: edition_number(number) for name, number in zip(words[2::2], words[3::2])
    }
    return True


def in_sequence(packages, names):
    """Whether no package stands ahead of one before it; names that are no packages count for nothing."""
    places = [packages.index(name) for name in names if name in packages]
    return places == sorted(places)
