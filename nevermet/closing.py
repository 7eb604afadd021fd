"""What follows where two tuples of terms are to become equal, without anything being put in."""

from nevermet.terms import coded, variables_in


def other_side(step, side):
    """The term of a step that is not the given one."""
    return step[1] if step[0] == side else step[0]


def closed(ones, others):
    """Steps from two tuples of terms, as (nodes, steps, bound, clash).

    The nodes are those of `coded`, and the steps hold the places of terms there. What is bound is a dict from each
    variable that must be something to the first step that says so; this step's other side may be bound, too. The
    clash is the index of a step whose terms can never become equal, or None. A pair that was already gone
    through is not gone through again, so the work stays small where the terms that would come out are huge.
    """
    nodes, roots = coded((*ones, *others))
    many = len(ones)
    steps = [(roots[k], roots[many + k], ("place", k)) for k in range(many)]
    bound = {}
    seen = {}
    at = 0
    while at < len(steps):
        left, right, _ = steps[at]
        if left != right and (left, right) not in seen:
            seen[(left, right)] = True
            one, other = nodes[left][0], nodes[right][0]
            if left in bound:
                steps.append((other_side(steps[bound[left]], left), right, ("join", bound[left], at)))
            elif right in bound:
                steps.append((left, other_side(steps[bound[right]], right), ("join", at, bound[right])))
            elif isinstance(one, str):
                bound[left] = at
            elif isinstance(other, str):
                bound[right] = at
            elif one[0] != other[0] or len(one) != len(other):
                return nodes, steps, bound, at
            else:
                pairs = list(zip(nodes[left][1], nodes[right][1]))
                steps.extend([(here, there, ("part", at, k)) for k, (here, there) in enumerate(pairs)])
        at += 1
    return nodes, steps, bound, None


def bindings(nodes, steps, bound):
    """The dict from the variables that are bound to the terms that they must be."""
    return {nodes[name][0]: nodes[other_side(steps[bound[name]], name)][0] for name in bound}


def needs_of(tied):
    """For each key of a dict from variables to terms, the tuple of the keys that its term contains."""
    return {name: tuple([one for one in variables_in((tied[name],)) if one in tied]) for name in tied}


def ordered(needs):
    """The keys, each behind those that it needs, as far as they can be ordered so; and the list of the others."""
    order = {}
    left = list(needs)
    while left:
        ready = [name for name in left if all([one in order for one in needs[name]])]
        if not ready:
            return list(order), left
        for name in ready:
            order[name] = True
        left = [name for name in left if name not in order]
    return list(order), left
