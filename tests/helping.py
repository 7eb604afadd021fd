"""What several test files use: values, terms, packages, and slow ways to the same answers."""

import random

from nevermet.errors import BadPaper
from nevermet.functions import Function
from nevermet.names import is_variable, is_word
from nevermet.packages import Package
from nevermet.rules import Rule, SoftRule, beneath
from nevermet.terms import renamed
from nevermet.unify import meet

INT = ("base.int",)
NIL = ("base.nil",)


def listed(inner):
    return ("base.list", inner)


def pair(one, other):
    return ("base.pair", one, other)


def triple(one, other, third):
    return ("base.triple", one, other, third)


def tower(deep, inner=INT):
    """A term that is so much deeper than the inner one."""
    term = inner
    for _ in range(deep):
        term = listed(term)
    return term


def tree(levels, leaf=INT):
    """A term with three parts everywhere above the leaves."""
    return leaf if levels == 1 else triple(*[tree(levels - 1, leaf)] * 3)


FULL = tree(4)
"""A term of just 40 symbols."""
OVERFULL = triple(tree(3), tree(3), triple(tree(2), tree(2), triple(INT, INT, listed(INT))))
"""A term of 41 symbols."""

PLAIN_VALUES = (
    None, True, False, 0, 1, -1, 10 ** 59, "", " ", "a", "T", "base.int", "base.list.item", "self", "\n",
    (), [], {}, (()), [[]], ("base.int",), ["base.int"], {"base.int": 1}, ("T",), (None,), (1, 2), ("base.int", None),
    ("base.int", "t"), ("base.list", ["base.int"]), ("base.list", "T", "T", "T", "T"), [("base.int",)], {"T": "U"},
)
"""Values of all kinds."""


def base():
    show = ("show", 1, False, ())
    rules = [Rule(("base.show", INT)), Rule(("base.show", listed("T")), ("base.show", "T"))]
    return Package("base", sorts=[("int", 0), ("list", 1)], traits=[show], rules=rules)


def shop():
    return Package("shop", "base", sorts=[("item", 0)], rules=[Rule(("base.show", ("shop.item",)))])


def rich():
    """A package with things of every kind."""
    wants = [("rich.eq", "A", "B"), ("rich.sure", "A")]
    body = [("ask", ("rich.eq", "B", "A")), ("call", "base.tell", "A", ("base.int",)), ("call", "base.none")]
    return Package(
        "rich", "shop", "base", edition=7,
        sorts=[("box", 3), ("nil", 0), ("bag", 1)],
        traits=[("iter", 1, False, ("item", "key")), ("sure", 1, True, ()), ("eq", 2, False, ())],
        rules=[Rule(("rich.iter", ("rich.bag", "T")), item="T", key=("rich.iter.key", "T")),
               SoftRule(("rich.eq", "A", "B"), ("rich.eq", "B", "A"), ("rich.sure", "A")),
               Rule(("rich.sure", "T")),
               SoftRule(("rich.iter", "T"), ("rich.iter", ("rich.nil",)), item="T", key=("rich.nil",))],
        functions=[Function("f", "A", "B", wants=wants, body=body), Function("g")])


RICH_TEXT = "\n".join([
    "package rich 7 needs base shop",
    "sort box 3", "sort nil 0", "sort bag 1",
    "trait iter 1 members item key", "mark sure 1", "trait eq 2",
    "rule rich.iter(rich.bag(T)) with item = T, key = rich.iter.key(T)",
    "soft rule rich.eq(A, B) if rich.eq(B, A), rich.sure(A)",
    "rule rich.sure(T)",
    "soft rule rich.iter(T) if rich.iter(rich.nil) with item = T, key = rich.nil",
    "function f(A, B) wants rich.eq(A, B), rich.sure(A) does ask rich.eq(B, A), call base.tell(A, base.int),"
    " call base.none",
    "function g"])


def random_term(source, names, deep):
    """A small term with variables of the given ones."""
    kind = source.randrange(6)
    if kind < 2 and names:
        return source.choice(names)
    if kind == 2 or deep <= 1:
        return source.choice([INT, NIL])
    if kind == 3:
        return listed(random_term(source, names, deep - 1))
    if kind == 4:
        return pair(random_term(source, names, deep - 1), random_term(source, names, deep - 1))
    return triple(*[random_term(source, names, deep - 1) for _ in range(3)])


def random_terms(seed, names, deep=3, most=3):
    """Two tuples of terms of equal length."""
    source = random.Random(seed)
    many = source.randrange(most + 1)
    ones = tuple(random_term(source, names, deep) for _ in range(many))
    return ones, tuple(random_term(source, names, deep) for _ in range(many))


def slow_fill(term, fill):
    if isinstance(term, str):
        return fill.get(term, term)
    return (term[0],) + tuple(slow_fill(part, fill) for part in term[1:])


def slow_pieces(term):
    """All pieces, as often as they occur, each before its parts."""
    found = [term]
    if isinstance(term, tuple):
        for part in term[1:]:
            found += slow_pieces(part)
    return found


def slow_variables(*terms):
    found = []
    for term in terms:
        found += [one for one in slow_pieces(term) if isinstance(one, str) and one not in found]
    return tuple(dict.fromkeys(found))


def slow_unify(ones, others):
    """A most general unifier, one variable after the other put in everywhere, or None."""
    pairs, fill = list(zip(ones, others)), {}
    while pairs:
        one, other = pairs.pop()
        if one == other:
            continue
        if not isinstance(one, str) and isinstance(other, str):
            one, other = other, one
        if isinstance(one, str):
            if one in slow_pieces(other):
                return None
            step = {one: other}
            pairs = [(slow_fill(a, step), slow_fill(b, step)) for a, b in pairs]
            fill = {name: slow_fill(term, step) for name, term in fill.items()}
            fill[one] = other
        elif one[0] != other[0] or len(one) != len(other):
            return None
        else:
            pairs += list(zip(one[1:], other[1:]))
    return fill


def raised(kind, call, *passed, **named):
    """The error of this very class that a call raises."""
    try:
        call(*passed, **named)
    except Exception as error:
        if error.__class__ is not kind:
            raise
        return error
    raise AssertionError(f"{kind.__name__} is not raised for {passed} {named}")


class Slow:
    """What is reached from a question, and what holds, found plainly as the document defines it.

    Exposed is a function that gives the reason why a question is exposed, or None.
    """

    def __init__(self, house, question, names=None, exposed=None):
        self.house, self.names = house, house.names if names is None else names
        self.order, self.uses, self.reasons = [], {}, {}
        waiting = [self.form(question)]
        while waiting:
            one = waiting.pop(0)
            if one not in self.uses:
                self.order.append(one)
                self.reasons[one] = exposed(one) if exposed else None
                self.uses[one] = [] if self.reasons[one] else self.fitting(one)
                waiting += [condition for _, _, conditions in self.uses[one] for condition in conditions]
        self.start = self.order[0]
        self.refuted = self.refuted_marks()
        self.held = self.held_plain() | {one for one in self.order if self.is_mark(one) and one not in self.refuted}
        self.refuted.update({one: 0 for one in self.order if one not in self.held and one not in self.refuted})

    @staticmethod
    def form(question):
        return (question[0],) + renamed(question[1:])

    def fitting(self, question):
        found = []
        for name in sorted(self.names):
            for index, rule in enumerate(self.house[name].rules):
                conditions = rule.conditions_for(question)
                if conditions is not None:
                    found.append(((name, index), rule, tuple(self.form(one) for one in conditions)))
        return found

    def is_mark(self, question):
        return self.house.sort_of(question[0]) == "mark"

    def refuted_marks(self):
        """The dict of the refuted questions of marks with their rounds."""
        marks = [one for one in self.order if self.is_mark(one) and self.reasons[one] is None]
        rounds = {}
        for count in range(1, len(marks) + 2):
            for one in marks:
                best = [min([rounds.get(condition, count) for condition in conditions], default=count)
                        for _, _, conditions in self.uses[one]]
                if one not in rounds and max(best, default=0) < count:
                    rounds[one] = max(best, default=0) + 1
        return rounds

    def held_plain(self):
        plain = [one for one in self.order if not self.is_mark(one)]
        marks = {one for one in self.order if self.is_mark(one) and one not in self.refuted}
        held = {one for one in plain if self.reasons[one] is not None}
        for _ in plain:
            held |= {one for one in plain
                     if any(all(c in held | marks for c in conditions) for _, _, conditions in self.uses[one])}
        return held

    def answering(self, question):
        return [use for use in self.uses[question] if all(condition in self.held for condition in use[2])]

    def answer(self, question):
        uses = self.answering(question)
        if self.is_mark(question):
            return uses[0]
        low = [use for use in uses if all(use is other or beneath(use[1], other[1]) for other in uses)]
        assert len(low) == 1, (question, uses)
        return low[0]

    def round(self, question):
        if question in self.refuted:
            return self.refuted[question]
        if self.is_mark(question):
            return 0
        return 1 + max([self.round(one) for one in self.answer(question)[2]], default=0)

    def reason(self, question, use):
        refuted = [(self.refuted[one] if self.is_mark(question) else 0, at)
                   for at, one in enumerate(use[2]) if one in self.refuted]
        return min(refuted)[1]

    def paper(self, entry_of):
        """The paper with the entries that a function makes of a question: (entry, questions mentioned)."""
        order, entries = [self.start], []
        for one in order:
            mentioned = entry_of(one)[1]
            order += [other for at, other in enumerate(mentioned) if other not in order + list(mentioned[:at])]
        for one in order:
            entries.append(entry_of(one)[0](order.index))
        return tuple(entries)

    def evidence(self):
        def entry_of(one):
            pair, _, asked = self.answer(one)
            return lambda at: (one, self.round(one), pair, tuple(map(at, asked))), asked
        return self.paper(entry_of)

    def no_paper(self):
        def entry_of(one):
            chosen = [(pair, self.reason(one, (pair, rule, asked)), asked) for pair, rule, asked in self.uses[one]]
            return (lambda at: (one, self.round(one), tuple((*pair, k, at(asked[k])) for pair, k, asked in chosen)),
                    [asked[k] for _, k, asked in chosen])
        return self.paper(entry_of)


def slow_exposed(house, name):
    """The function that tells why a question is exposed for a package, or None."""
    def exposed(question):
        heads = [question[0]] + [None if isinstance(place, str) else place[0] for place in question[1:]]
        if None in heads or not any(word in house[name].words for word in heads):
            return "exposed", question
        for other in house.view(name):
            for index, rule in enumerate(house[other].rules):
                if rule.trait == question[0] and len(rule.head) == len(question) and rule.fills(question) is None:
                    if meet(rule.places, question[1:]) is not None:
                        return "meets", question, (other, index)
        return None
    return exposed


A, B = ("low.a",), ("low.b",)


def f(one):
    return ("low.f", one)


def g(one, other):
    return ("low.g", one, other)


LOW_SORTS = [("a", 0), ("b", 0), ("f", 1), ("g", 2)]
LOW_TRAITS = [("p", 1, False, ()), ("q", 1, False, ()), ("r", 2, False, ()), ("m", 1, True, ()), ("n", 1, True, ()),
              ("o", 2, True, ())]


def random_conditions(source, traits, places, most):
    """Questions at some of these places."""
    found = []
    for _ in range(source.randrange(most + 1)):
        name, many = source.choice(traits)
        found.append((name,) + tuple(source.choice(places) for _ in range(many)))
    return found


def random_low(source, **more):
    """A package of marks and plain traits with rules that need not be let by, but marks have conditions of marks."""
    rules = []
    for name, many, mark, _ in LOW_TRAITS:
        kinds = [("low." + one, places) for one, places, other, _ in LOW_TRAITS if other or not mark]
        for _ in range(source.randrange(4)):
            places = [source.choice([A, B, "T", f("T"), f(f("T")), g("T", "U"), g("T", "T")]) for _ in range(many)]
            known = [piece for place in places for piece in slow_pieces(place)]
            rules.append(Rule(("low." + name, *places), *random_conditions(source, kinds, known + [A], 3)))
    return Package("low", sorts=LOW_SORTS, traits=LOW_TRAITS, rules=rules, **more)


def random_let_by(source):
    """A package that is let by: rules for one trait have unlike heads, but for soft rules above all others."""
    rules = []
    plain = [("low.p", 1), ("low.q", 1), ("low.m", 1), ("low.n", 1), ("low.r", 2), ("low.o", 2)]
    for name in ("low.p", "low.q"):
        upper = None
        if source.randrange(2):
            upper = random_conditions(source, plain, ["T", A, B], 3)
            rules.append(SoftRule((name, "T"), *upper))
        for place in [A, B, f("T"), g("T", "U")]:
            if source.randrange(3):
                own = random_conditions(source, plain, [*slow_pieces(place), A, B], 2)
                if upper is not None:
                    # The variables of the upper rule are renamed apart by the place that they stand for.
                    own = [(one[0],) + tuple(slow_fill(part, {"T": place}) for part in one[1:]) for one in upper]
                    own = [one for one in own if source.randrange(2)]
                rules.append((Rule, SoftRule)[source.randrange(2)]((name, place), *own))
    marks = [("low.m", 1), ("low.n", 1), ("low.o", 2)]
    for name in ("low.m", "low.n"):
        for _ in range(source.randrange(4)):
            place = source.choice([A, B, "T", f("T"), g("T", "U")])
            rules.append(Rule((name, place), *random_conditions(source, marks, [*slow_pieces(place), A], 3)))
    if source.randrange(2):
        rules.append(Rule(("low.o", f("T"), "U"), ("low.o", "T", "U")))
        rules.append(Rule(("low.o", A, "U")))
        rules.append(Rule(("low.r", f("T"), f("U")), ("low.r", "T", "U"), ("low.m", "T")))
        rules.append(Rule(("low.r", A, f("U"))))
    source.shuffle(rules)
    return Package("low", sorts=LOW_SORTS, traits=LOW_TRAITS, rules=rules)


def random_high(source, low, name="high"):
    """A package that needs `low`, with a sort and rules of its own for it; let by if that is."""
    own = (name + ".c",)
    rules = []
    for trait in [one for one in ("low.p", "low.q") if source.randrange(3)]:
        upper = [rule for rule in low.rules if rule.head == (trait, "T")]
        kinds = [("low.p", 1), ("low.m", 1)]
        asked = upper[0].conditions_for((trait, own)) if upper else random_conditions(source, kinds, [A, B, own], 2)
        rules.append(Rule((trait, own), *[one for one in asked if not upper or source.randrange(2)]))
    for trait in [one for one in ("low.m", "low.n") if source.randrange(3)]:
        rules.append(Rule((trait, own), *random_conditions(source, [("low.m", 1), ("low.n", 1)], [A, own], 2)))
    return Package(name, "low", sorts=[("c", 0)], rules=rules)


def random_ground(source, leaves=(A, B), deep=3):
    """A small ground term."""
    kind = source.randrange(4) if deep > 1 else 0
    if kind < 2:
        return source.choice(leaves)
    if kind == 2:
        return f(random_ground(source, leaves, deep - 1))
    return g(random_ground(source, leaves, deep - 1), random_ground(source, leaves, deep - 1))


def random_question(source, leaves=(A, B), deep=3):
    """A ground question."""
    name, many, _, _ = source.choice(LOW_TRAITS)
    return ("low." + name,) + tuple(random_ground(source, leaves, deep) for _ in range(many))


def exact(one, other):
    """Whether two values are equal and of the same kinds throughout."""
    if one.__class__ is not other.__class__:
        return False
    if isinstance(one, tuple):
        return len(one) == len(other) and all(exact(a, b) for a, b in zip(one, other))
    return one == other


def is_plain_question(thing, ground):
    """Whether a value is a question, its terms of any size."""
    def is_term(one):
        if isinstance(one, str):
            return is_variable(one) and not ground
        return isinstance(one, tuple) and 0 < len(one) < 5 and is_word(one[0]) and all(map(is_term, one[1:]))
    return isinstance(thing, tuple) and 1 < len(thing) < 5 and is_word(thing[0]) and all(map(is_term, thing[1:]))


class SlowCheck:
    """The check of a paper as the document says it; the kind is "yes", "no" or "table"."""

    def __init__(self, house, kind, name=None):
        self.house, self.kind, self.name = house, kind, name
        self.names = house.names if name is None else house.view(name)
        self.form = Slow.form if kind == "table" else lambda question: question

    def wrong(self, question, paper):
        """None if the paper is sound, otherwise the index that BadPaper has."""
        if not isinstance(paper, tuple) or not paper:
            return 0
        for at, entry in enumerate(paper):
            if not self.is_right(paper, entry) or (at == 0 and not exact(entry[0], self.form(question))):
                return at
            if any(exact(entry[0], other[0]) for other in paper[:at]):
                return at
        return None

    def is_mark(self, question):
        return self.house.sort_of(question[0]) == "mark"

    def mentions(self, paper, number, question, below):
        if number.__class__ is not int or not 0 <= number < len(paper):
            return False
        other = paper[number]
        if not isinstance(other, tuple) or not other or not exact(other[0], question):
            return False
        return below is None or (len(other) > 1 and other[1].__class__ is int and 0 <= other[1] < below)

    def is_right(self, paper, entry):
        if not isinstance(entry, tuple) or len(entry) != (4 if self.kind == "yes" else 3):
            return False
        question, count = entry[:2]
        if not is_plain_question(question, self.kind != "table") or count.__class__ is not int or count < 0:
            return False
        if (count == 0) != (self.is_mark(question) == (self.kind == "yes")):
            return False
        fitting = [((name, index), rule.conditions_for(question)) for name in self.names
                   for index, rule in enumerate(self.house[name].rules) if rule.fills(question) is not None]
        if self.kind == "yes":
            return self.is_yes(paper, entry, fitting)
        return (self.kind == "no" or self.lasts(question)) and self.is_no(paper, entry, fitting)

    def is_yes(self, paper, entry, fitting):
        question, count, pair, numbers = entry
        found = [conditions for one, conditions in fitting if exact(one, pair)]
        if not found or not isinstance(numbers, tuple) or len(numbers) != len(found[0]):
            return False
        return all(self.mentions(paper, number, one, None if self.is_mark(question) or self.is_mark(one) else count)
                   for number, one in zip(numbers, found[0]))

    def lasts(self, question):
        """Whether a question may stand in a table."""
        parts = [piece for place in question[1:] for piece in slow_pieces(place) if isinstance(piece, tuple)]
        kinds = [(question, ("trait", "mark"))] + [(part, ("sort",)) for part in parts]
        known = all(self.house.sort_of(one[0]) in sorts and self.house.places_of(one[0]) == len(one) - 1
                    and self.house.owner_of(one[0]) in self.names for one, sorts in kinds)
        return known and exact(question, Slow.form(question)) and slow_exposed(self.house, self.name)(question) is None

    def is_no(self, paper, entry, fitting):
        question, count, reasons = entry
        if not isinstance(reasons, tuple) or len(reasons) != len(fitting):
            return False
        for reason, (pair, conditions) in zip(reasons, fitting):
            if not isinstance(reason, tuple) or len(reason) != 4 or not exact(reason[:2], pair):
                return False
            if reason[2].__class__ is not int or not 0 <= reason[2] < len(conditions):
                return False
            below = count if self.is_mark(question) else None
            if not self.mentions(paper, reason[3], self.form(conditions[reason[2]]), below):
                return False
        return True


def changed(source, thing, pool):
    """A value with some part changed."""
    if isinstance(thing, tuple) and thing and source.randrange(5):
        at = source.randrange(len(thing))
        kind = source.randrange(12)
        if kind == 0:
            return thing[:at] + thing[at + 1:]
        if kind == 1:
            return thing[:at] + (source.choice(thing),) + thing[at:]
        if kind == 2:
            return thing[:at] + thing[at:][::-1]
        if kind == 3:
            return list(thing)
        return thing[:at] + (changed(source, thing[at], pool),) + thing[at + 1:]
    if thing.__class__ is int and source.randrange(4):
        return source.choice([thing + 1, thing - 1, thing + 7, -1 - thing, bool(thing), 0, 1, str(thing)])
    return source.choice(pool)


def wrong_index(check, *passed):
    """The index of the BadPaper that a check raises; None if it returns True."""
    before = repr(passed)
    try:
        assert check(*passed) is True
        return None
    except BadPaper as error:
        return error.index
    finally:
        assert repr(passed) == before, "a check changes nothing"
