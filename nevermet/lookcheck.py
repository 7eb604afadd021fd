"""The check of the papers of a look that anybody wrote."""

from nevermet.errors import BadPaper
from nevermet.kinds import is_index, is_integer
from nevermet.pairs import is_ordered, met_conditions, met_pairs
from nevermet.tablecheck import check_table


def is_parting(house, name, rule, other, thing):
    """Whether any value, a tuple, is a true reason ("apart", ..) for two rules that meet."""
    if len(thing) != 4 or not is_index(thing[1], 2):
        return False
    _, side, condition, table = thing
    conditions = met_conditions(rule, other)[side]
    if not is_index(condition, len(conditions)):
        return False
    try:
        return check_table(house, name, conditions[condition], table)
    except BadPaper:
        return False


def is_true(house, name, rule, other, thing):
    """Whether any value is a true reason for two rules that meet."""
    if not isinstance(thing, tuple) or not thing or not isinstance(thing[0], str):
        return False
    if thing[0] == "apart":
        return is_parting(house, name, rule, other, thing)
    if thing == ("beneath",):
        return is_ordered(rule, other)
    return thing == ("above",) and is_ordered(other, rule)


def is_right(house, name, pair, entry):
    """Whether any value is a right entry for a pair of rules that meet."""
    if not isinstance(entry, tuple) or len(entry) != 3:
        return False
    i, other, reason = entry
    if not is_integer(i) or not isinstance(other, tuple) or len(other) != 2 or not is_integer(other[1]):
        return False
    if (i, other) != pair:
        return False
    return is_true(house, name, house.rule(name, i), house.rule(other[0], other[1]), reason)


def check_look(house, name, papers):
    """Return True if any value is the tuple of right entries for the pairs that meet; otherwise raise BadPaper."""
    if not isinstance(papers, tuple):
        raise BadPaper(0)
    pairs = list(met_pairs(house, name))
    for at, entry in enumerate(papers):
        if at >= len(pairs) or not is_right(house, name, pairs[at], entry):
            raise BadPaper(at)
    if len(papers) < len(pairs):
        raise BadPaper(len(papers))
    return True
