"""Looks at packages: whether they are let by, and why."""

from nevermet.errors import Refused
from nevermet.pairs import judged, met_pairs
from nevermet.resolving import wrong_steps
from nevermet.tables import Lasting
from nevermet.words import wrong_forms, wrong_words


def judged_pairs(house, name):
    """The list of (i, (package, j), reason) for all pairs that are looked at and meet; the reason may be None."""
    lasting = Lasting(house, name)
    pairs = list(met_pairs(house, name))
    return [(i, other, judged(lasting, house.rule(name, i), house.rule(other[0], other[1]))) for i, other in pairs]


def look(house, name):
    """The look at a package: ("let by", papers) or ("refused", complaints)."""
    complaints = wrong_words(house, name) or wrong_forms(house, name)
    if complaints:
        return ("refused", complaints)
    pairs = judged_pairs(house, name)
    complaints = tuple([("pair", i, other) for i, other, reason in pairs if reason is None])
    # Steps are looked at only if there is no other complaint.
    complaints = complaints or wrong_steps(house, name)
    return ("refused", complaints) if complaints else ("let by", tuple(pairs))


def complaints_about(house, name):
    """The tuple of the complaints about a package."""
    verdict, found = look(house, name)
    return found if verdict == "refused" else ()


def is_let_by(house, name):
    """Whether a package is let by."""
    return not complaints_about(house, name)


def need_let_by(house):
    """Raise Refused with the complaints about the package with the least name that is refused, if there is one."""
    for name in house.names:
        complaints = complaints_about(house, name)
        if complaints:
            raise Refused(complaints)
