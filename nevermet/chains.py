"""All rules that answer a question, and the answers without soft rules."""

from nevermet.reach import explored
from nevermet.verdicts import answer, answering, lowest, settled


def chain(house, question):
    """The tuple of all rules that answer a ground question of a plain trait, as pairs, each beneath the next one."""
    net = explored(house, question, None)
    held, _ = settled(net)
    left = answering(net, held, 0)
    found = []
    while left:
        low = lowest(left)
        found.append(low[0])
        left = [use for use in left if use[0] != low[0]]
    return tuple(found)


def hardened(house, question):
    """The answer to a ground question in the house without its soft rules, or None."""
    net = explored(house, question, None)
    net.uses = [[use for use in uses if not use[1].soft] for uses in net.uses]
    held, _ = settled(net)
    return answer(net, held, 0)[0] if 0 in held else None
