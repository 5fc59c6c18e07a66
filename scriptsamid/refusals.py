"""What is wrong with a release whose lines all stand where they can stand."""

from scriptsamid.commands import has_word, is_command_of
from scriptsamid.errors import Doubled, RingOfNeeds, TooLarge, TooMany, Unnamed
from scriptsamid.forms import edition_number
from scriptsamid.steps import upgrade_steps

MOST_WORDS = 60
MOST_STEPS = 6


def refuse_wrong(draft):
    """Raises the first error of a draft that was read to its end; nothing if there is none."""
    line = first_doubled(draft.rows)
    if line is not None:
        raise Doubled(line)
    line = first_unnamed(draft)
    if line is not None:
        raise Unnamed(line)
    ring = ring_of_needs(draft.packages)
    if ring:
        raise RingOfNeeds(ring)
    number = words_multiplied(draft.cells)
    if number > MOST_WORDS:
        raise TooLarge(number)
    number = most_steps(draft.packages, draft.sets)
    if number > MOST_STEPS:
        raise TooMany(number)


def first_doubled(rows):
    """The first line with a name or word that must not be there a second time; None if there is none."""
    seen = set()
    edition = 0
    for line, (kind, words) in enumerate(rows):
        if kind == "edition":
            edition = line
        for told in told_once(kind, words, line, edition):
            if told in seen:
                return line
            seen.add(told)
    return None


def told_once(kind, words, line, edition):
    """What a line tells that may be told once: (kind, line to which that is bound, or -1 for the release, name)."""
    if kind in ("needs", "lays"):
        return [(kind, edition, words[1])]
    if kind == "program":
        return [(kind, edition, " ".join(words))]
    if kind == "cell":
        return [(kind, -1, words[1])] + [("word", line, word) for word in words[2:]]
    if kind == "set":
        return [(kind, -1, words[1])] + [("member", line, name) for name in words[2::2]]
    if kind in ("package", "at"):
        return [(kind, -1, words[1])]
    return []


def first_unnamed(draft):
    """The first line that names what there is not, or may not be named there; None if there is none."""
    for line, (kind, words) in enumerate(draft.rows):
        if not names_rightly(draft, kind, words):
            return line
    return None


def names_rightly(draft, kind, words):
    """Whether all that a line names is there and may be named there."""
    if kind == "needs":
        return words[1] in draft.packages
    if kind == "lays":
        return has_word(draft.cells, words[1], words[2]) and words[1] not in draft.owned
    if kind == "command":
        return is_command_of(draft.cells, draft.triggers, words)
    if kind == "if":
        return has_word(draft.cells, words[1], words[3])
    if kind == "set":
        return all([
            is_met(draft.packages, words[2::2], name, edition_number(number))
            for name, number in zip(words[2::2], words[3::2])
        ])
    return True


def is_met(packages, members, name, number):
    """Whether there is this edition of the package, and its needs are among the members of the set."""
    if name not in packages or not 1 <= number <= len(packages[name].editions):
        return False
    return all([need in members for need in packages[name].edition(number).needs])


def ring_of_needs(packages):
    """Packages each of which needs the next one, the last one the first one; () if there are no such."""
    needs = {name: packages[name].all_needs() for name in packages}
    for name in packages:
        ring = ring_behind(needs, (name,))
        if ring:
            return ring
    return ()


def ring_behind(needs, path):
    """A ring to which a row of packages, each of which needs the next one, can be led on; () if there is none."""
    for name in needs[path[-1]]:
        if name in path:
            return path[path.index(name):]
        ring = ring_behind(needs, path + (name,))
        if ring:
            return ring
    return ()


def words_multiplied(cells):
    """How many words of a house there could be: the numbers of the words of all cells, multiplied."""
    number = 1
    for cell in cells:
        number = number * len(cells[cell])
    return number


def most_steps(packages, sets):
    """The greatest number of steps that an upgrade from a set to a set has."""
    return max([
        len(upgrade_steps(packages, sets[elder], sets[newer])) for elder in sets for newer in sets
    ])
