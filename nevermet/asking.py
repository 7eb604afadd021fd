"""Whether ground questions hold, and their answers."""

from nevermet.reach import explored
from nevermet.verdicts import answer, settled


def holds(house, question, *, by=None):
    """Whether a ground question holds."""
    held, _ = settled(explored(house, question, by))
    return 0 in held


def ask(house, question, *, by=None):
    """The answer to a ground question, a pair (package, index), or None."""
    net = explored(house, question, by)
    held, _ = settled(net)
    return answer(net, held, 0)[0] if 0 in held else None
