"""Shut questions."""

from nevermet.terms import head_of


def is_shut_by(house, name, heads):
    """Whether a question with this trait and these heads, None for a bare place, is shut for a package."""
    return None not in heads and name in [house.owner_of(word) for word in heads]


def is_shut(house, name, question):
    """Whether a question is shut for a package."""
    return is_shut_by(house, name, [question[0], *[head_of(place) for place in question[1:]]])
