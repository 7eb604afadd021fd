"""Unifiers and meets."""

from nevermet.closing import bindings, closed, needs_of, ordered
from nevermet.matching import clash
from nevermet.terms import filled, filled_all, renamed, variables_in


def solved(ones, others):
    """What variables must be, as a dict and the order in which its terms can be filled; None without a unifier."""
    nodes, steps, bound, impossible = closed(ones, others)
    if impossible is not None:
        return None
    tied = bindings(nodes, steps, bound)
    order, circular = ordered(needs_of(tied))
    return None if circular else (tied, order)


def unify(ones, others):
    """A most general unifier whose terms contain none of its keys, or None."""
    found = solved(ones, others)
    if found is None:
        return None
    tied, order = found
    fill = {}
    for name in order:
        fill[name] = filled(tied[name], fill)
    return fill


def new_names(terms):
    """The fill that gives a tuple of terms new variables, which no tuple that is passed has."""
    # No variable has a sign in front, so these names are new.
    return {name: f"-{name}" for name in variables_in(terms)}


def unlike(terms):
    """A tuple of terms with new variables."""
    return filled_all(terms, new_names(terms))


def meeting_fills(ones, others):
    """A fill for each of two tuples of terms that have a meet, so that both become equal."""
    names = new_names(others)
    fill = unify(ones, filled_all(others, names))
    return fill, {name: filled(names[name], fill) for name in names}


def meet(ones, others):
    """The meet of two tuples of terms, or None."""
    # The new names are not in what is returned, since the meet is a renamed form.
    fill = unify(ones, unlike(others))
    return None if fill is None else renamed(filled_all(ones, fill))


def have_meet(ones, others):
    """Whether two tuples of terms have a meet, whatever its size would be."""
    if len(ones) != len(others) or clash(ones, others):
        return False
    return solved(ones, unlike(others)) is not None
