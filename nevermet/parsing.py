"""What the signs of a text spell, whether or not it is within the limits.

Here a term, a question and a member expression look alike: a tuple of a string and of parts, or a variable.
"""

from nevermet.names import DIGITS, is_variable

SIGNS = "abcdefghijklmnopqrstuvwxyzABCDEFGHIJKLMNOPQRSTUVWXYZ0123456789."
LONGEST_NUMBER = 3


def symbol_end(text, at):
    """Where the word, variable or name ends that begins here, perhaps at once."""
    while at < len(text) and text[at] in SIGNS:
        at += 1
    return at


def spelled(text, at):
    """What is written like a term from here on, and where it ends; None if nothing is.

    Parentheses may stand any number deep, so this is one loop and does not call itself.
    """
    nested = []
    while True:
        end = symbol_end(text, at)
        symbol = text[at:end]
        at = end + 1
        if text[end:at] == "(":
            nested.append([symbol])
            continue
        value = symbol if is_variable(symbol) else (symbol,)
        while nested:
            nested[-1].append(value)
            if text[end:end + 2] == ", ":
                at = end + 2
                break
            if text[end:end + 1] != ")":
                return None
            value = tuple(nested.pop())
            end += 1
        else:
            return value, end


def spelled_whole(text):
    """What a whole text spells, or None."""
    found = spelled(text, 0)
    return None if found is None or found[1] != len(text) else found[0]


def spelled_row(text, at):
    """The list of what is written from here on with a comma and a space between, and where it ends; or None."""
    row = []
    while True:
        found = spelled(text, at)
        if found is None:
            return None
        value, end = found
        row.append(value)
        if text[end:end + 2] != ", ":
            return row, end
        at = end + 2


def number_in(text):
    """The number that a short text writes in digits, or None."""
    if not 1 <= len(text) <= LONGEST_NUMBER or not all([sign in DIGITS for sign in text]):
        return None
    return int(text)
