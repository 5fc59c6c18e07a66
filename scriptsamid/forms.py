"""The forms of single lines of a release, and of the names, words and numbers in them."""

LETTERS = "abcdefghijklmnopqrstuvwxyz"
DIGITS = "0123456789"
RESERVED = (
    "cell", "own", "package", "edition", "needs", "lays", "before", "behind", "leaves", "gone",
    "back", "at", "set", "copy", "to", "wake", "fail", "if", "else",
)
PROGRAM_NAMES = (
    "before", "behind", "leaves", "gone",
    "back before", "back behind", "back leaves", "back gone",
)
PLAIN_COMMANDS = ("set NAME NAME", "copy NAME to NAME", "wake NAME", "fail")


def is_spelled(word):
    """Whether a string is spelled as a name is, reserved or not."""
    return 1 <= len(word) <= 8 and all([sign in LETTERS for sign in word])


def is_name(word):
    """Whether a string may be a name or a word."""
    return is_spelled(word) and word not in RESERVED


def is_number(word):
    """Whether a string is digits without leading zeros."""
    if word == "" or not all([sign in DIGITS for sign in word]):
        return False
    return word == "0" or word[0] != "0"


def fits(words, form):
    """Whether a line has the words of the form, in which NAME is any name or word."""
    parts = form.split(" ")
    if len(words) != len(parts):
        return False
    return all([is_name(word) if part == "NAME" else word == part for word, part in zip(words, parts)])


def is_cell_line(words):
    """Whether a line is the one of a cell."""
    names = words[1:]
    if names and names[-1] == "own":
        names = names[:-1]
    return words[:1] == ["cell"] and 3 <= len(names) <= 5 and all([is_name(word) for word in names])


def is_set_line(words):
    """Whether a line is the one of a set, whatever packages and editions there are."""
    if not fits(words[:2], "set NAME") or len(words[2:]) % 2 == 1:
        return False
    return all([is_name(word) for word in words[2::2]]) and all([is_number(word) for word in words[3::2]])


def is_plain_command(words):
    """Whether a line is a command, but no if."""
    return any([fits(words, form) for form in PLAIN_COMMANDS])


def edition_number(word):
    """The number of an edition that a line gives, 0 for one that no package has."""
    # Longer ones are not computed: they may have more digits than int takes.
    return int(word) if len(word) == 1 else 0
