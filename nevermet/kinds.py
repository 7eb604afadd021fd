"""Questions about the kinds of plain values."""


def is_integer(thing):
    """Whether any value is an integer; a bool is none."""
    return isinstance(thing, int) and not isinstance(thing, bool)


def is_index(thing, many):
    """Whether any value is the index of one of so many things."""
    return is_integer(thing) and 0 <= thing < many


def is_row(thing):
    """Whether any value is a list or a tuple."""
    return isinstance(thing, (list, tuple))
