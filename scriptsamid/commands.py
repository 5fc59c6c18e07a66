"""Whether commands name cells, words and triggers that there are, for commands of any values."""


def has_word(cells, cell, word):
    """Whether there is this cell among cells, words by their names, and the word is one of its words."""
    return isinstance(cell, str) and cell in cells and word in cells[cell]


def can_copy(cells, one, other):
    """Whether there are both cells, with the same words in the same sequence."""
    if not isinstance(one, str) or not isinstance(other, str):
        return False
    return one in cells and other in cells and cells[one] == cells[other]


def is_command_of(cells, triggers, command):
    """Whether a tuple that is not empty is a command, but no if, over these cells and triggers."""
    if command[0] == "set":
        return len(command) == 3 and has_word(cells, command[1], command[2])
    if command[0] == "copy":
        return len(command) == 3 and can_copy(cells, command[1], command[2])
    if command[0] == "wake":
        return len(command) == 2 and command[1] in triggers
    return command == ("fail",)
