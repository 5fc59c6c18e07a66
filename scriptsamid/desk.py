"""A desk: a house to which lines are said, and which answers them."""

from scriptsamid.again import again
from scriptsamid.deeds import are_names, choice_text, is_short_number, lead, read_deed, step_text
from scriptsamid.errors import BadLine
from scriptsamid.forms import PROGRAM_NAMES, is_spelled
from scriptsamid.houses import House
from scriptsamid.leanings import fewest
from scriptsamid.orders import one_end, plain
from scriptsamid.programs import first_words, program_at
from scriptsamid.releases import Release
from scriptsamid.texts import show_run, show_words
from scriptsamid.trains import kept_by, reason_by
from scriptsamid.upgrades import Upgrade


def answer_words(house):
    """The words of the house."""
    return show_words(house.words)


def answer_set(house):
    """The name of the set of the house."""
    return house.name


def answer_choices(house):
    """The choices of the moment."""
    return listed([choice_text(choice, None) for choice in house.offers()])


def answer_wise(house):
    """The choice that is wise."""
    choice = house.wise()
    return "-" if choice is None else choice_text(choice, None)


def answer_kept(house, name):
    """The kept words of a set."""
    return listed([show_words(words) for words in kept_by(house.train, name)])


def answer_let(house, elder, newer):
    """Whether an upgrade is let, and why not."""
    reason = reason_by(house.train, elder, newer)
    if reason is None:
        return "yes"
    words, run = reason
    return f"no {show_words(words)}: {show_run(run)}" if words else "no"


def answer_plain(house, elder, newer):
    """The words at the end of an upgrade from the words of the house."""
    return show_words(plain(Upgrade(house.release, elder, newer), house.words))


def answer_orders(house, elder, newer):
    """Whether all orders of an upgrade come to the same from the words of the house."""
    told = one_end(Upgrade(house.release, elder, newer), house.words)
    if told[0] == "one":
        return "one"
    return f"{told[0]} " + ": ".join([row_text(row) for row in told[1:]])


def answer_fewest(house, elder, newer):
    """The fewest leanings of an upgrade from the words of the house."""
    pairs, _ = fewest(Upgrade(house.release, elder, newer), house.words)
    return listed([f"{step_text(one)} ahead of {step_text(other)}" for one, other in pairs])


def answer_again(house, package, edition, name):
    """Whether a program can be run again from the words of the house."""
    program = program_at(house.release, package, edition, name)
    told = again(house.release, program, house.words)
    return "same" if told[0] == "same" else " ".join(["parts"] + [str(number) for number in told[1]])


# For each first word of a line of names how many of these stand behind it.
MANY_NAMES = {"words": 0, "set": 0, "choices": 0, "wise": 0, "kept": 1, "let": 2, "plain": 2, "orders": 2, "fewest": 2}
ANSWERS = {
    "words": answer_words,
    "set": answer_set,
    "choices": answer_choices,
    "wise": answer_wise,
    "kept": answer_kept,
    "let": answer_let,
    "plain": answer_plain,
    "orders": answer_orders,
    "fewest": answer_fewest,
}


class Desk:
    """A desk with a house of the first set of a release, and its first words."""

    def __init__(self, text):
        release = Release(text)
        self.house = House(release, release.sets[0], first_words(release))

    def say(self, line):
        """The answer to a line; raises BadLine, or what the call that it asks for raises."""
        if not isinstance(line, str):
            raise BadLine(line)
        deed = read_deed(line)
        if deed is not None:
            return answer_deed(self.house, deed)
        words = line.split(" ")
        if is_program_line(words):
            return answer_again(self.house, words[1], int(words[2]), " ".join(words[3:]))
        asked, *names = words
        if asked not in ANSWERS or not are_names(names, MANY_NAMES[asked]):
            raise BadLine(line)
        answer = ANSWERS[asked]
        return answer(self.house, *names)


def answer_deed(house, deed):
    """Does a deed, and tells whether an upgrade is over with it."""
    lead(house, deed)
    if deed[0] == "own" or house.moment is not None:
        return "done"
    return f"over {house.name}"


def is_program_line(words):
    """Whether a line asks whether a program can be run again."""
    if words[0] != "again" or len(words) < 4 or not is_spelled(words[1]) or not is_short_number(words[2]):
        return False
    if words[3] == "at":
        return are_names(words[4:], 1)
    return " ".join(words[3:]) in PROGRAM_NAMES


def listed(texts):
    """Texts one behind the other, - for none."""
    return ", ".join(texts) if texts else "-"


def row_text(row):
    """A row of steps as it is written."""
    return " ".join([step_text(step) for step in row])
