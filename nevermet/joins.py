"""Houses that are put together, and what they share."""

from nevermet.errors import NoHouse
from nevermet.houses import House


def joined(*houses):
    """The house of all packages of some houses, equal ones once."""
    found = {}
    unlike = []
    for house in houses:
        for name in house.names:
            if found.setdefault(name, house[name]) != house[name]:
                unlike.append(name)
    if unlike:
        raise NoHouse("edition", min(unlike))
    return House.of([found[name] for name in found])


def shared(one, other):
    """The house of the packages that two houses have, equal in both with all that they see."""
    same = [name for name in one.names if name in other and one[name] == other[name]]
    return House.of([one[name] for name in same if all([seen in same for seen in one.sees(name)])])
