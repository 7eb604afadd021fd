"""Terms and questions.

Terms of any size are walked with lists of what waits, never by functions that call themselves, since a term may
be deeper than Python's calls can be. For the same reason pieces are compared by numbers. A question is built like a
term, so most of these functions serve for questions too.
"""

from nevermet.names import is_member_word, is_variable, is_word

MOST_SYMBOLS = 40
MOST_DEEP = 6
MOST_PARTS = 3
MOST_PLACES = 3


def is_piece(thing, members):
    """Whether a value can stand in a term, whatever its parts are; with members, a member word may be its word."""
    if is_variable(thing):
        return True
    if not isinstance(thing, tuple) or not 1 <= len(thing) <= 1 + MOST_PARTS:
        return False
    return is_word(thing[0]) or (members and len(thing) > 1 and is_member_word(thing[0]))


def is_within(thing, members):
    """Whether any value is built like a term and keeps the limits of one."""
    level = [thing]
    symbols = 0
    deep = 0
    while level:
        symbols += len(level)
        deep += 1
        if symbols > MOST_SYMBOLS or deep > MOST_DEEP or not all([is_piece(one, members) for one in level]):
            return False
        level = [part for one in level if isinstance(one, tuple) for part in one[1:]]
    return True


def is_term(thing):
    """Whether any value is a term."""
    return is_within(thing, False)


def is_question(thing):
    """Whether any value is a question."""
    if not isinstance(thing, tuple) or not 2 <= len(thing) <= 1 + MOST_PLACES:
        return False
    return is_word(thing[0]) and all([is_term(place) for place in thing[1:]])


def is_constant(term):
    """Whether a term is a constant."""
    return isinstance(term, tuple) and len(term) == 1


def walk(terms):
    """The list of all pieces of some terms, as often as they occur, each before its parts, from left to right."""
    found = []
    waiting = list(terms[::-1])
    while waiting:
        term = waiting.pop()
        found.append(term)
        if isinstance(term, tuple):
            waiting.extend(term[:0:-1])
    return found


def coded(terms):
    """The different pieces of some terms, as a list of pairs (piece, places of its parts in this list).

    Behind it the tuple of the places of the terms. Terms are equal if their places are.
    """
    nodes = []
    places = {}
    held = []
    for piece in walk(terms)[::-1]:
        many = 0 if isinstance(piece, str) else len(piece) - 1
        parts = tuple(held[len(held) - many:][::-1])
        del held[len(held) - many:]
        mark = (piece if isinstance(piece, str) else piece[0], parts)
        if mark not in places:
            places[mark] = len(nodes)
            nodes.append((piece, parts))
        held.append(places[mark])
    return nodes, tuple(held[::-1])


def same(thing, term):
    """Whether any value is equal to a term of any size."""
    waiting = [(thing, term)]
    while waiting:
        here, there = waiting.pop()
        if not isinstance(here, tuple) or not isinstance(there, tuple):
            if here != there:
                return False
        elif len(here) != len(there) or here[0] != there[0]:
            return False
        else:
            waiting.extend(list(zip(here[1:], there[1:])))
    return True


def size(term):
    """The number of symbols."""
    return len(walk((term,)))


def depth(term):
    """How deep a term is."""
    held = []
    for piece in walk((term,))[::-1]:
        many = 0 if isinstance(piece, str) else len(piece) - 1
        deepest = max(held[len(held) - many:], default=0)
        del held[len(held) - many:]
        held.append(deepest + 1)
    return held[0]


def head_of(term):
    """The word of a term, None for a variable."""
    return None if isinstance(term, str) else term[0]


def pieces(term):
    """The tuple of the different pieces, in the order of their first occurrence."""
    nodes, roots = coded((term,))
    found = {}
    waiting = list(roots)
    while waiting:
        place = waiting.pop()
        if place not in found:
            found[place] = True
            waiting.extend(nodes[place][1][::-1])
    return tuple([nodes[place][0] for place in found])


def variables_in(terms):
    """The tuple of the different variables of a tuple or list of terms, in the order of their first occurrence."""
    found = {}
    for piece in walk(terms):
        if isinstance(piece, str):
            found[piece] = True
    return tuple(found)


def variables(*terms):
    """The tuple of the different variables, in the order of their first occurrence."""
    return variables_in(terms)


def words(*terms):
    """The ascending tuple of the words."""
    return tuple(sorted({piece[0] for piece in walk(terms) if isinstance(piece, tuple)}))


def filled(term, fill):
    """The term with its variables replaced, all at once, as a fill says."""
    held = []
    for piece in walk((term,))[::-1]:
        if isinstance(piece, str):
            held.append(fill[piece] if piece in fill else piece)
        else:
            many = len(piece) - 1
            parts = held[len(held) - many:][::-1]
            del held[len(held) - many:]
            held.append((piece[0], *parts))
    return held[0]


def filled_all(terms, fill):
    """The tuple of the filled terms."""
    return tuple([filled(term, fill) for term in terms])


def renamed(terms):
    """The renamed form of a tuple of terms."""
    return filled_all(terms, {name: f"V{at}" for at, name in enumerate(variables_in(terms))})
