"""Questions that last as a no, and their tables."""

from nevermet.nets import Net
from nevermet.noes import no_paper
from nevermet.shut import is_shut
from nevermet.verdicts import settled

MOST_REACHED = 100


def exposure(house, name, net, at):
    """The reason why a question of a net is exposed, or None."""
    question = net.questions[at]
    if not is_shut(house, name, question):
        return ("exposed", question)
    pair = net.met_only(at)
    return None if pair is None else ("meets", question, pair)


def net_of(house, name, question):
    """The net of what is reached from a question, as far as it is not exposed; None if this is too much."""
    net = Net(house, house.view(name))
    net.mention(question)
    at = 0
    while at < len(net.questions):
        net.exposed[at] = exposure(house, name, net, at)
        if net.exposed[at] is None:
            net.grow(at)
        if len(net.questions) > MOST_REACHED:
            return None
        at += 1
    return net


def lasts(house, name, question):
    """Whether a question lasts as a no for a package."""
    return lasting_table(house, name, question) is not None


def lasting_table(house, name, question):
    """The lasting table for a question, or None if it does not last."""
    net = net_of(house, name, question)
    if net is None:
        return None
    held, rounds = settled(net)
    return None if 0 in held else no_paper(net, rounds)


def why_not(house, name, question):
    """The reason why a question does not last, or None if it does."""
    net = net_of(house, name, question)
    if net is None:
        return ("many",)
    held, _ = settled(net)
    if 0 not in held:
        return None
    reasons = [reason for reason in net.exposed if reason is not None]
    return reasons[0] if reasons else ("holds", net.questions[0])
