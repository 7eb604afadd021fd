"""Questions that last as a no, and their tables."""

from nevermet.codes import Codes
from nevermet.nets import Net
from nevermet.noes import no_paper
from nevermet.shut import is_shut_by
from nevermet.verdicts import settled

MOST_REACHED = 100


class Lasting:
    """The questions that last as a no for a package, each one found out once."""

    def __init__(self, house, name):
        self._house = house
        self._name = name
        self._codes = Codes(house, house.view(name), True)
        self._found = {}

    def _exposure(self, code):
        """The reason why a question is exposed, or None."""
        if not is_shut_by(self._house, self._name, self._codes.heads(code)):
            return ("exposed", self._codes.question_of(code))
        pair = self._codes.met_only(code)
        return None if pair is None else ("meets", self._codes.question_of(code), pair)

    def net(self, code):
        """The net of what is reached from a question, as far as it is not exposed; None if this is too much."""
        net = Net(self._codes)
        net.mention(code)
        at = 0
        while at < len(net.listed):
            net.ends[at] = self._exposure(net.listed[at])
            if net.ends[at] is None:
                net.grow(at)
            if len(net.listed) > MOST_REACHED:
                return None
            at += 1
        return net

    def code_of(self, question):
        """The code of the renamed form of a question."""
        return self._codes.code_of(question)

    def _settled(self, code):
        """The (net, rounds) of a question that lasts, or None."""
        net = self.net(code)
        if net is None:
            return None
        held, rounds = settled(net)
        return None if 0 in held else (net, rounds)

    def table(self, question):
        """The lasting table for a question, or None if it does not last."""
        code = self.code_of(question)
        if code not in self._found:
            found = self._settled(code)
            self._found[code] = None if found is None else no_paper(found[0], found[1])
        return self._found[code]


def lasts(house, name, question):
    """Whether a question lasts as a no for a package."""
    return lasting_table(house, name, question) is not None


def lasting_table(house, name, question):
    """The lasting table for a question, or None if it does not last."""
    return Lasting(house, name).table(question)


def why_not(house, name, question):
    """The reason why a question does not last, or None if it does."""
    asked = Lasting(house, name)
    net = asked.net(asked.code_of(question))
    if net is None:
        return ("many",)
    held, _ = settled(net)
    if 0 not in held:
        return None
    reasons = [reason for reason in net.ends if reason is not None]
    return reasons[0] if reasons else ("holds", net.question_at(0))
