"""Words and programs: which there are, and what programs do."""

from scriptsamid.commands import has_word, is_command_of
from scriptsamid.errors import BadProgram, BadWords, NoProgram
from scriptsamid.forms import PROGRAM_NAMES, is_name
from scriptsamid.values import is_integer, is_row


def is_words(release, value):
    """Whether any value is words of a house of this release."""
    if not is_row(value, len(release.cells)):
        return False
    return all([word in release.words_of[cell] for cell, word in zip(release.cells, value)])


def first_words(release):
    """The words of an empty house."""
    return tuple([release.words_of[cell][0] for cell in release.cells])


def is_program(release, value):
    """Whether any value is a program that this release could have."""
    return is_part(release, value, 0, 6, 2)


def is_part(release, value, least, most, ifs):
    """Whether any value is from least to most commands with ifs at most so deep."""
    if not isinstance(value, tuple) or not least <= len(value) <= most:
        return False
    return all([is_command(release, command, ifs) for command in value])


def is_command(release, value, ifs):
    """Whether any value is a command with ifs at most so deep."""
    if not isinstance(value, tuple) or len(value) == 0:
        return False
    if value[0] == "if":
        return ifs > 0 and is_if(release, value, ifs - 1)
    return is_command_of(release.words_of, release.triggers, value)


def is_if(release, value, ifs):
    """Whether a tuple is an if in whose parts stand ifs at most so deep."""
    if len(value) != 5 or not has_word(release.words_of, value[1], value[2]):
        return False
    return is_part(release, value[3], 1, 4, ifs) and is_part(release, value[4], 0, 4, ifs)


def program_at(release, package, edition, name):
    """The program with this name, () if there is none; raises NoProgram."""
    if not is_place(release, package, edition, name):
        raise NoProgram((package, edition, name))
    part = release.parts[package]
    if edition == 0:
        return part.at_programs.get(name[3:], ())
    return part.edition(edition).programs.get(name, ())


def is_place(release, package, edition, name):
    """Whether a program with this name may stand in this edition of the package, or beside its editions for 0."""
    if not isinstance(package, str) or package not in release.parts:
        return False
    if not isinstance(name, str) or not is_integer(edition):
        return False
    if name.startswith("at "):
        return edition == 0 and is_name(name[3:])
    return name in PROGRAM_NAMES and 1 <= edition <= len(release.parts[package].editions)


def done(release, program, words):
    """What is behind a run: (words, wakes, failed); raises BadProgram, BadWords."""
    refuse_program(release, program)
    refuse_words(release, words)
    return whole_run(release, program, words)


def cuts(release, program, words):
    """Where the house may stop in a run, as (words, wakes) behind each command; raises BadProgram, BadWords."""
    refuse_program(release, program)
    refuse_words(release, words)
    return stops(release, program, words)


def refuse_program(release, program):
    """Raises BadProgram if any value is no program of the release."""
    if not is_program(release, program):
        raise BadProgram(program)


def refuse_words(release, words):
    """Raises BadWords if any value is no words of the release."""
    if not is_words(release, words):
        raise BadWords(words)


def whole_run(release, program, words):
    """What done tells of a program and words that are known to be such."""
    states = [(words, ())]
    failed = run_commands(release, program, states)
    behind, wakes = states[-1]
    return behind, wakes, failed


def stops(release, program, words):
    """What cuts tells of a program and words that are known to be such."""
    states = [(words, ())]
    run_commands(release, program, states)
    return tuple(states[1:])


def run_commands(release, program, states):
    """Runs a program from the last of states and adds the (words, wakes) behind each command; tells if it failed."""
    for command in program:
        if command[0] == "fail":
            return True
        if command[0] == "if":
            if run_commands(release, part_to_run(release, command, states[-1][0]), states):
                return True
        else:
            states.append(state_behind(release, command, states[-1]))
    return False


def part_to_run(release, command, words):
    """The part of an if that its test tells to run."""
    holds = words[release.cells.index(command[1])] == command[2]
    return command[3] if holds else command[4]


def state_behind(release, command, state):
    """The (words, wakes) behind a set, a copy or a wake."""
    words, wakes = state
    if command[0] == "wake":
        return words, joined(wakes, (command[1],))
    if command[0] == "copy":
        word = words[release.cells.index(command[1])]
        place = release.cells.index(command[2])
    else:
        word = command[2]
        place = release.cells.index(command[1])
    return words[:place] + (word,) + words[place + 1:], wakes


def joined(wakes, more):
    """The ascending tuple of the triggers of both."""
    return tuple(sorted(set(wakes + more)))
