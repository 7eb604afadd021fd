"""Own places and bare places."""

from nevermet.terms import head_of


def own_place(house, name, index):
    """The own place of a rule, -1 if its package owns the trait, None if the rule is not in place."""
    rule = house.rule(name, index)
    if house.owner_of(rule.trait) == name:
        return -1
    for at, place in enumerate(rule.places):
        head = head_of(place)
        if head is None:
            return None
        if house.owner_of(head) == name:
            return at
    return None


def bare_places(rule):
    """The ascending tuple of the bare places of the head of a rule."""
    return tuple([at for at, place in enumerate(rule.places) if head_of(place) is None])
