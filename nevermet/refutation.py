"""Refutations."""

from nevermet.noes import no_paper
from nevermet.reach import explored
from nevermet.verdicts import settled


def refutation(house, question, *, by=None):
    """The refutation of a ground question, or None if it holds."""
    net = explored(house, question, by)
    held, rounds = settled(net)
    return None if 0 in held else no_paper(net, rounds)
