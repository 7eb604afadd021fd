"""Unifiers and meets."""

from nevermet.closing import bindings, closed, needs_of, ordered
from nevermet.terms import filled, filled_all, renamed, variables_in


def unify(ones, others):
    """A most general unifier whose terms contain none of its keys, or None."""
    nodes, steps, bound, clash = closed(ones, others)
    if clash is not None:
        return None
    tied = bindings(nodes, steps, bound)
    order, circular = ordered(needs_of(tied))
    if circular:
        return None
    fill = {}
    for name in order:
        fill[name] = filled(tied[name], fill)
    return fill


def meet(ones, others):
    """The meet of two tuples of terms, or None."""
    # No variable has a sign in front, so these names are new to both, and the renaming at the end removes them.
    new = filled_all(others, {name: "-" + name for name in variables_in(others)})
    fill = unify(ones, new)
    return None if fill is None else renamed(filled_all(ones, fill))
