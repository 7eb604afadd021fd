"""Names, words and variables."""

LONGEST_NAME = 8
LONGEST_VARIABLE = 4
SMALL = "abcdefghijklmnopqrstuvwxyz"
LARGE = "ABCDEFGHIJKLMNOPQRSTUVWXYZ"
DIGITS = "0123456789"
# Rules and objects are made with these as parameters of their own, so no member may be called so.
TAKEN = ("self", "head")


def is_name(thing):
    """Whether any value is a name."""
    if not isinstance(thing, str) or not 1 <= len(thing) <= LONGEST_NAME:
        return False
    return thing not in TAKEN and all([sign in SMALL for sign in thing])


def is_dotted(thing, many):
    """Whether any value is a string of so many names with dots between them."""
    if not isinstance(thing, str):
        return False
    names = thing.split(".")
    return len(names) == many and all([is_name(name) for name in names])


def is_word(thing):
    """Whether any value is a word."""
    return is_dotted(thing, 2)


def is_member_word(thing):
    """Whether any value is the word of a trait, a dot, and a name."""
    return is_dotted(thing, 3)


def is_variable(thing):
    """Whether any value is a variable."""
    if not isinstance(thing, str) or not 1 <= len(thing) <= LONGEST_VARIABLE:
        return False
    return thing[0] in LARGE and all([sign in DIGITS for sign in thing[1:]])
