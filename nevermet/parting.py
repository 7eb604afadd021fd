"""Steps that show that two tuples of terms have no unifier."""

from nevermet.closing import bindings, closed, needs_of, ordered
from nevermet.errors import BadPaper
from nevermet.kinds import is_index
from nevermet.terms import filled, same, variables_in


def parted(ones, others):
    """Steps that show that there is no unifier, or None."""
    nodes, steps, bound, clash = closed(ones, others)
    if clash is not None:
        return pruned(shown(nodes, steps), clash)
    needs = needs_of(bindings(nodes, steps, bound))
    _, circular = ordered(needs)
    if not circular:
        return None
    return circled(shown(nodes, steps), {nodes[name][0]: bound[name] for name in bound}, shortest_ring(needs, circular))


def shown(nodes, steps):
    """The steps with terms instead of the places of terms."""
    return [(nodes[left][0], nodes[right][0], source) for left, right, source in steps]


def earlier(source):
    """The tuple of the steps that a source mentions."""
    if source[0] == "place":
        return ()
    return source[1:2] if source[0] == "part" else source[1:3]


def moved(source, places):
    """A source with other numbers for the steps that it mentions."""
    told = earlier(source)
    return (source[0], *[places[at] for at in told], *source[1 + len(told):])


def pruned(steps, last):
    """The steps up to one that is the last, without those that it does not need."""
    needed = {}
    waiting = [last]
    while waiting:
        at = waiting.pop()
        if at not in needed:
            needed[at] = True
            waiting.extend(earlier(steps[at][2]))
    kept = sorted(needed)
    places = {old: new for new, old in enumerate(kept)}
    return [(steps[old][0], steps[old][1], moved(steps[old][2], places)) for old in kept]


def ring_through(needs, start):
    """A shortest list of variables, the start first, such that each needs the next one and the last one the start."""
    before = {}
    level = [start]
    while level:
        following = []
        for name in level:
            for one in needs[name]:
                if one == start:
                    return way_back(before, name, start)
                if one not in before:
                    before[one] = name
                    following.append(one)
        level = following
    return []


def way_back(before, name, start):
    """The list of the names from the start to a name."""
    way = [name]
    while way[-1] != start:
        way.append(before[way[-1]])
    return way[::-1]


def shortest_ring(needs, names):
    """The shortest ring through one of some names: each replacement around a ring makes the terms larger."""
    rings = [ring_through(needs, name) for name in names]
    return min([ring for ring in rings if ring], key=len)


def circled(steps, bound, ring):
    """Steps after which a variable of a ring would be a larger term with itself in it."""
    last = bound[ring[-1]]
    for name, following in list(zip(ring[:-1], ring[1:]))[::-1]:
        side = 0 if steps[last][0] == following else 1
        left, right, _ = steps[bound[name]]
        fill = {following: steps[last][1 - side]}
        steps = [*steps, (filled(left, fill), filled(right, fill), ("put", bound[name], last, side))]
        last = len(steps) - 1
    return pruned(steps, last)


def check_parted(ones, others, thing):
    """Return True if any value is such a list of steps; otherwise raise BadPaper(index)."""
    if not isinstance(thing, list):
        raise BadPaper(0)
    for at in range(len(thing)):
        if not is_step(ones, others, thing, at):
            raise BadPaper(at)
    if not thing or not is_impossible(thing[-1][0], thing[-1][1]):
        raise BadPaper(len(thing))
    return True


def is_step(ones, others, steps, at):
    """Whether an entry is a step; those before it are steps."""
    step = steps[at]
    if not isinstance(step, tuple) or len(step) != 3:
        return False
    left, right, source = step
    if not isinstance(source, tuple):
        return False
    pairs = told_pairs(ones, others, steps[:at], source)
    return any([same(left, one) and same(right, other) for one, other in pairs])


def told_pairs(ones, others, steps, source):
    """The list of the pairs of terms that a step with this source may have, none if this is no source."""
    if len(source) == 2 and source[0] == "place" and is_index(source[1], len(ones)):
        return [(ones[source[1]], others[source[1]])]
    if len(source) < 3 or not is_index(source[1], len(steps)):
        return []
    first = steps[source[1]]
    if len(source) == 3 and source[0] == "part":
        return part_pairs(first, source[2])
    if not is_index(source[2], len(steps)):
        return []
    second = steps[source[2]]
    if len(source) == 3 and source[0] == "join":
        return join_pairs(first, second)
    if len(source) == 4 and source[0] == "put" and is_index(source[3], 2):
        return put_pairs(first, second, source[3])
    return []


def part_pairs(step, k):
    """The parts with a number of both terms of a step."""
    left, right, _ = step
    if isinstance(left, str) or isinstance(right, str) or is_impossible(left, right):
        return []
    return [(left[1 + k], right[1 + k])] if is_index(k, len(left) - 1) else []


def join_pairs(first, second):
    """What two steps give that have a variable in common."""
    found = []
    for side in (0, 1):
        for other in (0, 1):
            if isinstance(first[side], str) and first[side] == second[other]:
                found.append((first[1 - side], second[1 - other]))
    return found


def put_pairs(first, second, side):
    """What a step gives in which another one is put in for a variable."""
    if not isinstance(second[side], str):
        return []
    fill = {second[side]: second[1 - side]}
    return [(filled(first[0], fill), filled(first[1], fill))]


def is_impossible(left, right):
    """Whether two terms can be seen never to become equal."""
    if isinstance(left, tuple) and isinstance(right, tuple):
        return left[0] != right[0] or len(left) != len(right)
    if isinstance(left, tuple):
        return right in variables_in((left,))
    return isinstance(right, tuple) and left in variables_in((right,))
