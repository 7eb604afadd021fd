"""Pairs of rules for one plain trait that meet, and why they may."""

from nevermet.rules import beneath
from nevermet.tables import Lasting
from nevermet.terms import filled_all
from nevermet.unify import have_meet, meeting_fills


def met_pairs(house, name):
    """Yield (i, (package, j)) for the pairs of rules that are looked at and meet, in order."""
    names = house.view(name)
    for i, rule in enumerate(house[name].rules):
        if house.sort_of(rule.trait) == "trait":
            for pair, other in house.headed(rule.trait):
                counts = pair[1] < i if pair[0] == name else pair[0] in names
                if counts and have_meet(rule.places, other.places):
                    yield (i, pair)


def is_ordered(lower, upper):
    """Whether two rules that meet are ordered, the first one beneath the second one."""
    if not upper.soft or not beneath(lower, upper):
        return False
    # This fill is a most general unifier that leaves the lower rule as it is.
    allowed = upper.conditions_for(lower.head)
    return all([condition in allowed for condition in lower.conditions])


def met_conditions(rule, other):
    """The conditions of two rules that meet, of the one and of the other, filled by a most general unifier."""
    fill, other_fill = meeting_fills(rule.places, other.places)
    return filled_all(rule.conditions, fill), filled_all(other.conditions, other_fill)


def parting(lasting, rule, other):
    """The reason ("apart", ..) of two rules that meet, from the first condition that lasts; None if none does."""
    for side, conditions in enumerate(met_conditions(rule, other)):
        for condition, question in enumerate(conditions):
            table = lasting.table(question)
            if table is not None:
                return ("apart", side, condition, table)
    return None


def judged(lasting, rule, other):
    """The reason why two rules may meet, or None."""
    if is_ordered(rule, other):
        return ("beneath",)
    if is_ordered(other, rule):
        return ("above",)
    return parting(lasting, rule, other)


def judged_pair(house, name, i, other):
    """The reason why a rule of a package and another one, which meet, may do so; None if there is a complaint."""
    package, j = other
    return judged(Lasting(house, name), house.rule(name, i), house.rule(package, j))
