"""What any value may be told to be."""


def is_integer(value):
    """Whether any value is an integer, which True and False are not."""
    return isinstance(value, int) and not isinstance(value, bool)


def is_below(value, many):
    """Whether any value is the number of one of so many, counted from 0."""
    return is_integer(value) and 0 <= value < many


def is_row(value, many):
    """Whether any value is a tuple of so many."""
    return isinstance(value, tuple) and len(value) == many


def is_ascending(rows):
    """Whether each of these is less than the next one."""
    return all([one < other for one, other in zip(rows, rows[1:])])
