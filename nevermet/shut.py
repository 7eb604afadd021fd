"""Shut questions."""

from nevermet.terms import head_of


def is_shut(house, name, question):
    """Whether a question is shut for a package."""
    heads = [head_of(place) for place in question[1:]]
    return None not in heads and name in [house.owner_of(word) for word in [question[0], *heads]]
