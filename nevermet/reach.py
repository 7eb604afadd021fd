"""The questions that are reached from a ground question."""

from nevermet.codes import Codes
from nevermet.errors import TooMany
from nevermet.known import need_known
from nevermet.nets import Net
from nevermet.views import view

MOST_REACHED = 300


def counted(house, by):
    """The house of the packages that count: those in the view of a package, or all."""
    return house if by is None or len(house.view(by)) == len(house) else view(house, by)


def grown(codes, question):
    """The net of what is reached from a ground question, which is the first one in it."""
    net = Net(codes)
    net.mention(codes.code_of(question))
    at = 0
    while at < len(net.listed):
        net.grow(at)
        if len(net.listed) > MOST_REACHED:
            raise TooMany(MOST_REACHED)
        at += 1
    return net


def explored(house, question, by):
    """As `grown`, in the house of the packages that count; raises UnknownWord first."""
    found = counted(house, by)
    need_known(found, question)
    return grown(Codes(found, found.names, False), question)


def reached(house, question):
    """The tuple of the questions that are reached from a ground question, in the order of their first mention."""
    net = explored(house, question, None)
    return tuple([net.question_at(at) for at in range(len(net.listed))])
