"""What several test files use: values, terms, packages, and slow ways to the same answers."""

import random

from nevermet.functions import Function
from nevermet.packages import Package
from nevermet.rules import Rule, SoftRule

INT = ("base.int",)
NIL = ("base.nil",)


def listed(inner):
    return ("base.list", inner)


def pair(one, other):
    return ("base.pair", one, other)


def triple(one, other, third):
    return ("base.triple", one, other, third)


def tower(deep, inner=INT):
    """A term that is so much deeper than the inner one."""
    term = inner
    for _ in range(deep):
        term = listed(term)
    return term


def tree(levels, leaf=INT):
    """A term with three parts everywhere above the leaves."""
    return leaf if levels == 1 else triple(*[tree(levels - 1, leaf)] * 3)


FULL = tree(4)
"""A term of just 40 symbols."""
OVERFULL = triple(tree(3), tree(3), triple(tree(2), tree(2), triple(INT, INT, listed(INT))))
"""A term of 41 symbols."""

PLAIN_VALUES = (
    None, True, False, 0, 1, -1, 10 ** 59, "", " ", "a", "T", "base.int", "base.list.item", "self", "\n",
    (), [], {}, (()), [[]], ("base.int",), ["base.int"], {"base.int": 1}, ("T",), (None,), (1, 2), ("base.int", None),
    ("base.int", "t"), ("base.list", ["base.int"]), ("base.list", "T", "T", "T", "T"), [("base.int",)], {"T": "U"},
)
"""Values of all kinds."""


def base():
    show = ("show", 1, False, ())
    rules = [Rule(("base.show", INT)), Rule(("base.show", listed("T")), ("base.show", "T"))]
    return Package("base", sorts=[("int", 0), ("list", 1)], traits=[show], rules=rules)


def shop():
    return Package("shop", "base", sorts=[("item", 0)], rules=[Rule(("base.show", ("shop.item",)))])


def rich():
    """A package with things of every kind."""
    wants = [("rich.eq", "A", "B"), ("rich.sure", "A")]
    body = [("ask", ("rich.eq", "B", "A")), ("call", "base.tell", "A", ("base.int",)), ("call", "base.none")]
    return Package(
        "rich", "shop", "base", edition=7,
        sorts=[("box", 3), ("nil", 0), ("bag", 1)],
        traits=[("iter", 1, False, ("item", "key")), ("sure", 1, True, ()), ("eq", 2, False, ())],
        rules=[Rule(("rich.iter", ("rich.bag", "T")), item="T", key=("rich.iter.key", "T")),
               SoftRule(("rich.eq", "A", "B"), ("rich.eq", "B", "A"), ("rich.sure", "A")),
               Rule(("rich.sure", "T")),
               SoftRule(("rich.iter", "T"), ("rich.iter", ("rich.nil",)), item="T", key=("rich.nil",))],
        functions=[Function("f", "A", "B", wants=wants, body=body), Function("g")])


RICH_TEXT = "\n".join([
    "package rich 7 needs base shop",
    "sort box 3", "sort nil 0", "sort bag 1",
    "trait iter 1 members item key", "mark sure 1", "trait eq 2",
    "rule rich.iter(rich.bag(T)) with item = T, key = rich.iter.key(T)",
    "soft rule rich.eq(A, B) if rich.eq(B, A), rich.sure(A)",
    "rule rich.sure(T)",
    "soft rule rich.iter(T) if rich.iter(rich.nil) with item = T, key = rich.nil",
    "function f(A, B) wants rich.eq(A, B), rich.sure(A) does ask rich.eq(B, A), call base.tell(A, base.int),"
    " call base.none",
    "function g"])


def random_term(source, names, deep):
    """A small term with variables of the given ones."""
    kind = source.randrange(6)
    if kind < 2 and names:
        return source.choice(names)
    if kind == 2 or deep <= 1:
        return source.choice([INT, NIL])
    if kind == 3:
        return listed(random_term(source, names, deep - 1))
    if kind == 4:
        return pair(random_term(source, names, deep - 1), random_term(source, names, deep - 1))
    return triple(*[random_term(source, names, deep - 1) for _ in range(3)])


def random_terms(seed, names, deep=3, most=3):
    """Two tuples of terms of equal length."""
    source = random.Random(seed)
    many = source.randrange(most + 1)
    ones = tuple(random_term(source, names, deep) for _ in range(many))
    return ones, tuple(random_term(source, names, deep) for _ in range(many))


def slow_fill(term, fill):
    if isinstance(term, str):
        return fill.get(term, term)
    return (term[0],) + tuple(slow_fill(part, fill) for part in term[1:])


def slow_pieces(term):
    """All pieces, as often as they occur, each before its parts."""
    found = [term]
    if isinstance(term, tuple):
        for part in term[1:]:
            found += slow_pieces(part)
    return found


def slow_variables(*terms):
    found = []
    for term in terms:
        found += [one for one in slow_pieces(term) if isinstance(one, str) and one not in found]
    return tuple(dict.fromkeys(found))


def slow_unify(ones, others):
    """A most general unifier, one variable after the other put in everywhere, or None."""
    pairs, fill = list(zip(ones, others)), {}
    while pairs:
        one, other = pairs.pop()
        if one == other:
            continue
        if not isinstance(one, str) and isinstance(other, str):
            one, other = other, one
        if isinstance(one, str):
            if one in slow_pieces(other):
                return None
            step = {one: other}
            pairs = [(slow_fill(a, step), slow_fill(b, step)) for a, b in pairs]
            fill = {name: slow_fill(term, step) for name, term in fill.items()}
            fill[one] = other
        elif one[0] != other[0] or len(one) != len(other):
            return None
        else:
            pairs += list(zip(one[1:], other[1:]))
    return fill


def raised(kind, call, *passed, **named):
    """The error of this very class that a call raises."""
    try:
        call(*passed, **named)
    except Exception as error:
        if error.__class__ is not kind:
            raise
        return error
    raise AssertionError(f"{kind.__name__} is not raised for {passed} {named}")
