"""The questions that are reached from a ground question."""

from nevermet.errors import TooMany
from nevermet.houses import House
from nevermet.known import need_known
from nevermet.nets import Net

MOST_REACHED = 300


def counted(house, by):
    """The house of the packages that count: those in the view of a package, or all."""
    return house if by is None else House.of([house[name] for name in house.view(by)])


def explored(house, question, by):
    """The net of what is reached from a ground question, which is the first one in it."""
    asked = counted(house, by)
    need_known(asked, question)
    net = Net(asked, asked.names)
    net.mention(question)
    at = 0
    while at < len(net.questions):
        net.grow(at)
        if len(net.questions) > MOST_REACHED:
            raise TooMany(MOST_REACHED)
        at += 1
    return net


def reached(house, question):
    """The tuple of the questions that are reached from a ground question, in the order of their first mention."""
    return tuple(explored(house, question, None).questions)
