"""Instances and variants."""

from nevermet.terms import same


def matched(ones, others):
    """The fill of exactly the variables of `ones` that gives `others`, or None."""
    fill = {}
    waiting = list(zip(ones, others))
    while waiting:
        one, other = waiting.pop()
        if isinstance(one, str):
            if one not in fill:
                fill[one] = other
            elif not same(fill[one], other):
                return None
        elif isinstance(other, str) or one[0] != other[0] or len(one) != len(other):
            return None
        else:
            waiting.extend(list(zip(one[1:], other[1:])))
    return fill


def clash(ones, others):
    """Whether unlike words stand at one place in two tuples of terms, so that there is no unifier."""
    waiting = list(zip(ones, others))
    while waiting:
        one, other = waiting.pop()
        if not isinstance(one, str) and not isinstance(other, str):
            if one[0] != other[0] or len(one) != len(other):
                return True
            waiting.extend(list(zip(one[1:], other[1:])))
    return False


def is_instance(ones, others):
    """Whether `ones` is an instance of `others`."""
    return matched(others, ones) is not None


def are_variants(ones, others):
    """Whether each is an instance of the other."""
    return is_instance(ones, others) and is_instance(others, ones)
