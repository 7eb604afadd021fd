"""Slow ways to looks and resolutions, as the document defines them, and random packages to look at."""

from helping import (A, B, LOW_SORTS, LOW_TRAITS, Slow, SlowCheck, exact, f, g, is_plain_question, random_conditions,
                     slow_exposed, slow_fill, slow_pieces, slow_unify, slow_variables)
from nevermet.functions import Function
from nevermet.packages import Package
from nevermet.rules import Rule, SoftRule, beneath
from nevermet.shut import is_shut
from nevermet.unify import meet
from nevermet.words import wrong_forms, wrong_words


def slow_table(house, name, question):
    """The lasting table of a question, or None."""
    found = Slow(house, question, house.view(name), slow_exposed(house, name))
    return None if len(found.order) > 100 or found.start in found.held else found.no_paper()


def slow_filled(rule, other):
    """The conditions of two rules that meet, filled by a most general unifier of their heads."""
    names = {name: "-" + name for name in slow_variables(*other.places)}
    fill = slow_unify(rule.places, tuple(slow_fill(place, names) for place in other.places))
    ones = [slow_fill(condition, fill) for condition in rule.conditions]
    return ones, [slow_fill(slow_fill(condition, names), fill) for condition in other.conditions]


def slow_reason(house, name, rule, other):
    """The reason why two rules that meet may do so, or None."""
    ones, others = slow_filled(rule, other)
    if beneath(rule, other) and other.soft and all(one in others for one in ones):
        return ("beneath",)
    if beneath(other, rule) and rule.soft and all(one in ones for one in others):
        return ("above",)
    for side, conditions in enumerate((ones, others)):
        for at, condition in enumerate(conditions):
            found = slow_table(house, name, condition)
            if found is not None:
                return ("apart", side, at, found)
    return None


def slow_pairs(house, name):
    """The pairs that are looked at and meet."""
    for i, rule in enumerate(house[name].rules):
        if house.sort_of(rule.trait) == "trait":
            for package in sorted(house.view(name)):
                for j, other in enumerate(house[package].rules):
                    if package != name or j < i:
                        if rule.head[0] == other.head[0] and len(rule.head) == len(other.head):
                            if meet(rule.places, other.places) is not None:
                                yield i, (package, j)


def slow_look(house, name):
    complaints = wrong_words(house, name) or wrong_forms(house, name)
    if complaints:
        return "refused", complaints
    papers = [(i, pair, slow_reason(house, name, house.rule(name, i), house.rule(*pair)))
              for i, pair in slow_pairs(house, name)]
    complaints = tuple(("pair", i, pair) for i, pair, reason in papers if reason is None) or slow_steps(house, name)
    return ("refused", complaints) if complaints else ("let by", tuple(papers))


def slow_look_check(house, name, papers):
    """None if a value is what a look returns, in any right way, otherwise the index that BadPaper has."""
    if not isinstance(papers, tuple):
        return 0
    pairs = list(slow_pairs(house, name))
    for at, entry in enumerate(papers):
        if at >= len(pairs) or not isinstance(entry, tuple) or len(entry) != 3 or not exact(entry[:2], pairs[at]):
            return at
        if not slow_is_true(house, name, house.rule(name, pairs[at][0]), house.rule(*pairs[at][1]), entry[2]):
            return at
    return len(papers) if len(papers) < len(pairs) else None


def slow_is_true(house, name, rule, other, reason):
    ones, others = slow_filled(rule, other)
    if exact(reason, ("beneath",)):
        return beneath(rule, other) and other.soft and all(one in others for one in ones)
    if exact(reason, ("above",)):
        return beneath(other, rule) and rule.soft and all(one in ones for one in others)
    if not isinstance(reason, tuple) or len(reason) != 4 or not exact(reason[0], "apart"):
        return False
    if reason[1].__class__ is not int or reason[1] not in (0, 1) or reason[2].__class__ is not int:
        return False
    conditions = others if reason[1] else ones
    if not 0 <= reason[2] < len(conditions):
        return False
    return SlowCheck(house, "table", name).wrong(conditions[reason[2]], reason[3]) is None


def slow_resolved_check(house, name, question, wants, paper):
    """None if a value is a right paper of a resolved question, otherwise the index that BadPaper has."""
    if not isinstance(paper, tuple) or not paper:
        return 0
    for at, entry in enumerate(paper):
        if not slow_right_entry(house, name, wants, paper, entry) or (at == 0 and not exact(entry[0], question)):
            return at
        if any(exact(entry[0], other[0]) for other in paper[:at]):
            return at
    return None


def slow_right_entry(house, name, wants, paper, entry):
    if not isinstance(entry, tuple) or len(entry) != 3 or not is_plain_question(entry[0], False):
        return False
    question, count, reason = entry
    if count.__class__ is not int or count < 0 or not isinstance(reason, tuple) or not reason:
        return False
    if exact(reason[0], "want"):
        return (len(reason) == 2 and reason[1].__class__ is int and 0 <= reason[1] < len(wants)
                and wants[reason[1]] == question and count == 0)
    mark = house.sort_of(question[0]) == "mark"
    if not exact(reason[0], "rule") or len(reason) != 4 or (count == 0) != mark:
        return False
    finder = SlowResolve.__new__(SlowResolve)
    finder.house, finder.name = house, name
    found = [asked for pair, asked in finder.usable(question) if exact(pair, reason[1:3])]
    if not found or not isinstance(reason[3], tuple) or len(reason[3]) != len(found[0]):
        return False
    check = SlowCheck(house, "table", name)
    return all(check.mentions(paper, number, one, None if mark or check.is_mark(one) else count)
               for number, one in zip(reason[3], found[0]))


class SlowResolve:
    """What is resolved for a package with wants."""

    def __init__(self, house, name, question, wants):
        self.house, self.name, self.wants = house, name, list(wants)
        self.uses, waiting = {}, [question]
        while waiting:
            one = waiting.pop()
            if one not in self.uses:
                self.uses[one] = [] if one in self.wants else self.usable(one)
                waiting += [condition for _, conditions in self.uses[one] for condition in conditions]
        self.rounds = {}
        self.question = question
        self.solve()

    def usable(self, question):
        found = []
        for package in sorted(self.house.view(self.name)):
            for index, rule in enumerate(self.house[package].rules):
                conditions = rule.conditions_for(question)
                if conditions is not None and (not rule.soft or self.is_firm(rule, question)):
                    found.append(((package, index), conditions))
        return found

    def is_firm(self, rule, question):
        if not is_shut(self.house, self.name, question):
            return False
        others = [other for package in self.house.view(self.name) for other in self.house[package].rules]
        return not any(other.trait == rule.trait and beneath(other, rule)
                       and meet(other.places, question[1:]) is not None for other in others)

    def is_mark(self, question):
        return self.house.sort_of(question[0]) == "mark"

    def solve(self):
        marks = {one for one in self.uses if self.is_mark(one)}
        while True:
            kept = {one for one in marks
                    if one in self.wants or any(set(asked) <= marks for _, asked in self.uses[one])}
            if kept == marks:
                break
            marks = kept
        self.rounds = {one: 0 for one in marks}
        self.rounds.update({one: 0 for one in self.uses if one in self.wants})
        for count in range(1, len(self.uses) + 2):
            fresh = [one for one in self.uses if one not in self.rounds and not self.is_mark(one)
                     and any(set(asked) <= set(self.rounds) for _, asked in self.uses[one])]
            self.rounds.update({one: count for one in fresh})

    def resolving(self, question):
        """The reason without its numbers, and the questions that it mentions."""
        if question in self.wants:
            return ("want", self.wants.index(question)), ()
        for pair, asked in self.uses[question]:
            if set(asked) <= set(self.rounds):
                if self.is_mark(question) or self.rounds[question] == 1 + max([self.rounds[one] for one in asked], default=0):
                    return ("rule", *pair), asked
        raise AssertionError(question)

    def paper(self):
        if self.question not in self.rounds:
            return None
        order = [self.question]
        for one in order:
            for other in self.resolving(one)[1]:
                if other not in order:
                    order.append(other)
        entries = []
        for one in order:
            reason, asked = self.resolving(one)
            if reason[0] == "rule":
                reason += (tuple(map(order.index, asked)),)
            entries.append((one, self.rounds[one], reason))
        return tuple(entries)


def slow_step(house, name, function, step):
    """Whether a step of a function is resolved."""
    questions = [step[1]]
    if step[0] == "call":
        package, called = step[1].split(".")
        other = [one for one in house[package].functions if one.name == called][0]
        questions = [slow_fill(want, dict(zip(other.variables, step[2:]))) for want in other.wants]
    return all(SlowResolve(house, name, question, function.wants).paper() is not None for question in questions)


def slow_steps(house, name):
    return tuple(("step", f, s) for f, function in enumerate(house[name].functions)
                 for s, step in enumerate(function.body) if not slow_step(house, name, function, step))


PLACES = [A, B, "T", f("T"), f(A), f(f("T")), g("T", "U"), g("T", "T"), g(A, "T"), g("U", f("T"))]


def lower_rule(source, rule):
    """A rule whose head is an instance of that of another one, with some of its conditions."""
    fill = {name: source.choice([A, f("T"), f(A), "T", g("U", "U")]) for name in slow_variables(*rule.places)}
    kept = [slow_fill(one, fill) for one in rule.conditions if source.randrange(3)]
    kind = rule.__class__ if source.randrange(2) else Rule
    return kind(slow_fill(rule.head, fill), *kept)


def random_rules(source, traits, kinds, places, most, conditions=2):
    """Rules, soft or hard, whose heads often meet."""
    rules = []
    for _ in range(source.randrange(most + 1)):
        if rules and source.randrange(3) == 0:
            rules.append(lower_rule(source, source.choice(rules)))
            continue
        name, many, mark = source.choice(traits)
        head = [source.choice(places) for _ in range(many)]
        known = [piece for place in head for piece in slow_pieces(place)] + [A, B]
        asked = [one for one in kinds if one[2] or not mark]
        kind = Rule if mark or source.randrange(2) else SoftRule
        kept = random_conditions(source, [one[:2] for one in asked], known, conditions) if asked else []
        rules.append(kind((name, *head), *kept))
    source.shuffle(rules)
    return rules


KINDS = [("low." + name, many, mark) for name, many, mark, _ in LOW_TRAITS]


def random_asked(source, kinds, terms):
    name, many = source.choice(kinds)[:2]
    return (name, *[source.choice(terms) for _ in range(many)])


def random_functions(source, name, kinds, called, many=3):
    """Functions with wants and steps; called are (word, number of variables)."""
    functions, called = [], list(called)
    terms = ["T", "T", f("T"), f(f("T")), A, f(A), g("T", "T"), "U"]
    for at in range(source.randrange(many + 1)):
        wants = list(dict.fromkeys(random_asked(source, kinds, terms) for _ in range(source.randrange(4))))
        body = []
        for _ in range(source.randrange(4)):
            if called and source.randrange(3) == 0:
                word, places = source.choice(called)
                body.append(("call", word, *[source.choice(["T", f("T"), A]) for _ in range(places)]))
            else:
                body.append(("ask", random_asked(source, [one for one in kinds if not one[2]], terms)))
        one = "fun" + "abcdef"[at]
        functions.append(Function(one, "T", "U", wants=wants, body=body))
        called.append((f"{name}.{one}", 2))
    return functions


def random_looked(source, functions=3, rules=6):
    """A package that may be let by or not."""
    return Package("low", sorts=LOW_SORTS, traits=LOW_TRAITS,
                   rules=random_rules(source, KINDS, KINDS, PLACES, rules),
                   functions=random_functions(source, "low", KINDS, [], functions))


def random_seeing(source, low, name="high", functions=3):
    """A package that sees `low`, with sorts, traits and rules of its own; it may be let by or not."""
    own, box = (name + ".c",), lambda term: (name + ".box", term)
    kinds = [(name + ".t", 1, False), (name + ".u", 2, False), (name + ".k", 1, True)]
    rules = random_rules(source, kinds, KINDS + kinds, PLACES + [own, box("T"), f(own)], 4)
    # Rules for the traits of `low` need an own place.
    for one in random_rules(source, KINDS, KINDS + kinds, [own, box("T"), box(own), box(box("T"))], 3):
        if len(one.head) == 3 and source.randrange(2):
            one = one.__class__((one.head[0], one.head[1], source.choice(["T9", A, f("T9")])), *one.conditions[:0])
        rules.append(one)
    called = [(f"low.{one.name}", len(one.variables)) for one in low.functions]
    return Package(name, "low", sorts=[("c", 0), ("box", 1)],
                   traits=[("t", 1, False, ()), ("u", 2, False, ()), ("k", 1, True, ())], rules=rules,
                   functions=random_functions(source, name, KINDS + kinds, called, functions))


def random_papers(source, thing, pool, change):
    """Some values made of a paper by changing parts of it."""
    for _ in range(20):
        other = change(source, thing, pool)
        if source.randrange(3) == 0:
            other = change(source, other, pool)
        yield other


def random_wanting(source, house, name, kinds, terms):
    """A question that is often resolved, and wants for it."""
    rules = [rule for package in house.view(name) for rule in house[package].rules]
    if not rules or source.randrange(4) == 0:
        return random_asked(source, kinds, terms), [random_asked(source, kinds, terms) for _ in range(source.randrange(4))]
    rule = source.choice(rules)
    question = slow_fill(rule.head, {one: source.choice(terms) for one in slow_variables(*rule.places)})
    wants, waiting = [random_asked(source, kinds, terms) for _ in range(source.randrange(2))], [question]
    for one in waiting[:30]:
        for other in rules:
            for condition in other.conditions_for(one) or ():
                if source.randrange(3):
                    wants.append(condition)
                elif len(waiting) < 9:
                    waiting.append(condition)
    source.shuffle(wants)
    return question, wants[:6]
