"""Questions that are resolved, the check of their papers, and steps: points 25 and 26."""

import random
import unittest
from collections import Counter

from helping import (A, B, INT, LOW_SORTS, LOW_TRAITS, PLAIN_VALUES, base, changed, f, g, listed, raised, random_ground, shop,
                     slow_fill, wrong_index)
from looking import (KINDS, SlowResolve, random_looked, random_papers, random_seeing, random_wanting, slow_resolved_check,
                     slow_steps)
from nevermet.asking import ask, holds
from nevermet.errors import BadPaper, NoAnswer, TooMany
from nevermet.functions import Function
from nevermet.houses import House
from nevermet.looks import is_let_by
from nevermet.packages import Package
from nevermet.resolving import check_resolved, resolve, wrong_steps
from nevermet.rules import Rule, SoftRule
from nevermet.words import wrong_forms, wrong_words

T, U = "T", "U"


def p(term):
    return ("low.p", term)


def q(term):
    return ("low.q", term)


def m(term):
    return ("low.m", term)


def n(term):
    return ("low.n", term)


def r(one, other):
    return ("low.r", one, other)


def low(*rules, functions=()):
    return Package("low", sorts=LOW_SORTS, traits=LOW_TRAITS, rules=rules, functions=functions)


def paper(question, wants=(), *rules, name="low", others=()):
    """The paper of a question, None if it is not resolved; whether wants are a list or tuple does not matter."""
    house = House(low(*rules), *others)
    try:
        found = resolve(house, name, question, list(wants))
    except NoAnswer as error:
        assert error.question == question
        return None
    assert resolve(house, name, question, tuple(wants)) == found
    assert check_resolved(house, name, question, wants, found) is True
    return found


class Resolved(unittest.TestCase):
    def test_wants(self):
        self.assertEqual(paper(p(T), [p(T)]), ((p(T), 0, ("want", 0)),))
        self.assertEqual(paper(m(T), [p(T), m(T), q(T), m(T)]), ((m(T), 0, ("want", 1)),))
        self.assertIsNone(paper(p(T), [p(U)]))
        self.assertIsNone(paper(p(T)))

    def test_a_want_that_is_a_variant_is_none(self):
        self.assertIsNone(paper(r(T, U), [r(U, T), r("A", "B"), r(T, T), r("V0", "V1")]))
        self.assertIsNone(paper(p(f(T)), [p(T)]))
        self.assertIsNone(paper(p(T), [p(f(T))]))

    def test_a_want_is_never_resolved_by_a_rule(self):
        rules = [Rule(p(f(T)), p(T)), Rule(p(A)), Rule(m(A))]
        self.assertEqual(paper(p(A), [p(A)], *rules), ((p(A), 0, ("want", 0)),))
        self.assertEqual(paper(m(A), [m(A)], *rules), ((m(A), 0, ("want", 0)),))
        self.assertEqual(paper(p(f(A)), [q(A), p(A)], *rules),
                         ((p(f(A)), 1, ("rule", "low", 0, (1,))), (p(A), 0, ("want", 1))))
        self.assertEqual(paper(p(f(A)), [p(f(A)), p(A)], *rules), ((p(f(A)), 0, ("want", 0)),))

    def test_hard_rules(self):
        rules = [Rule(p(f(T)), p(T), q(f(T))), Rule(q(f(T)))]
        self.assertEqual(paper(p(f(f(U))), [p(U)], *rules), (
            (p(f(f(U))), 3, ("rule", "low", 0, (1, 2))), (p(f(U)), 2, ("rule", "low", 0, (3, 4))),
            (q(f(f(U))), 1, ("rule", "low", 1, ())), (p(U), 0, ("want", 0)), (q(f(U)), 1, ("rule", "low", 1, ()))))
        self.assertIsNone(paper(p(f(f(U))), [p(T)], *rules))

    def test_the_variables_are_fixed(self):
        """A rule fits only if the question is an instance of its head."""
        self.assertIsNone(paper(p(T), (), Rule(p(f(T)))))
        self.assertIsNone(paper(r(T, U), (), Rule(r(T, T))))
        self.assertEqual(paper(r(T, U), (), Rule(r(U, T))), ((r(T, U), 1, ("rule", "low", 0, ())),))

    def test_soft_rules_that_are_firm(self):
        soft = SoftRule(p(f(T)))
        self.assertEqual(paper(p(f(T)), (), soft), ((p(f(T)), 1, ("rule", "low", 0, ())),))
        self.assertEqual(paper(p(f(f(T))), (), soft, Rule(p(f(A)))), ((p(f(f(T))), 1, ("rule", "low", 0, ())),))
        self.assertEqual(paper(p(f(A)), (), soft, Rule(p(f(B)))), ((p(f(A)), 1, ("rule", "low", 0, ())),))

    def test_soft_rules_that_are_not_firm(self):
        soft = SoftRule(p(f(T)))
        # The rule beneath meets the question, also where it does not fit it.
        self.assertIsNone(paper(p(f(T)), (), soft, Rule(p(f(A)))))
        self.assertIsNone(paper(p(f(A)), (), soft, SoftRule(p(f(A)), q(A))))
        self.assertIsNone(paper(p(f(T)), (), SoftRule(p(T)), Rule(p(f(f(T))))))
        self.assertIsNone(paper(r(T, T), (), SoftRule(r(T, U)), Rule(r(f(T), U))))
        # The question is not shut: a bare place, or no word of the package.
        self.assertIsNone(paper(p(T), (), SoftRule(p(T))))
        high = Package("high", "low", sorts=[("c", 0)])
        self.assertIsNone(paper(p(f(T)), (), soft, name="high", others=[high]))
        found = paper(r(A, ("high.c",)), (), SoftRule(r(T, U)), name="high", others=[high])
        self.assertEqual(found, ((r(A, ("high.c",)), 1, ("rule", "low", 0, ())),))
        # Another rule that is no variant of it but above it, or a variant, is not beneath it.
        self.assertEqual(paper(p(f(A)), (), soft, SoftRule(p(T)), SoftRule(p(f(U)))),
                         ((p(f(A)), 1, ("rule", "low", 0, ())),))

    def test_rules_outside_the_view(self):
        c = ("high.c",)
        high = Package("high", "low", sorts=[("c", 0)], rules=[Rule(p(c)), Rule(p(f(c)))])
        side = Package("side", "low", sorts=[("c", 0)])
        soft = SoftRule(p(f(T)))
        self.assertEqual(paper(p(c), (), name="high", others=[high]), ((p(c), 1, ("rule", "high", 0, ())),))
        self.assertEqual(paper(p(f(A)), (), soft, others=[high, side]), ((p(f(A)), 1, ("rule", "low", 0, ())),))
        # The rule of `high` is beneath the soft one, but only in the view of `high`.
        self.assertEqual(paper(p(f(T)), (), soft, others=[high]), ((p(f(T)), 1, ("rule", "low", 0, ())),))
        self.assertEqual(paper(r(("side.c",), T), [r(("side.c",), T)], name="side", others=[high, side])[0][2], ("want", 0))

    def test_least_rounds_and_the_first_rule(self):
        rules = [Rule(p(f(T)), q(f(T)), q(T)), Rule(p(f(T)), r(T, f(T))), Rule(p(f(T)), q(T)), Rule(p(f(T)), q(T), q(T)),
                 Rule(q(f(T)), q(T)), Rule(r(T, U), q(U))]
        self.assertEqual(paper(p(f(T)), [q(T)], *rules), ((p(f(T)), 1, ("rule", "low", 2, (1,))), (q(T), 0, ("want", 0))))
        self.assertEqual(paper(p(f(T)), [q(T)], *rules[:2], *rules[4:]), (
            (p(f(T)), 2, ("rule", "low", 0, (1, 2))), (q(f(T)), 1, ("rule", "low", 2, (2,))), (q(T), 0, ("want", 0))))
        self.assertEqual(paper(p(f(T)), [r(T, f(T)), q(T)], *rules[:2], *rules[4:])[0],
                         (p(f(T)), 1, ("rule", "low", 1, (1,))))

    def test_a_mark_takes_the_first_rule(self):
        rules = [Rule(m(T), n(T)), Rule(n(T), m(T)), Rule(n(T))]
        self.assertEqual(paper(m(A), (), *rules), (
            (m(A), 0, ("rule", "low", 0, (1,))), (n(A), 0, ("rule", "low", 1, (0,)))))
        self.assertEqual(paper(m(A), (), rules[2], *rules[:2]), (
            (m(A), 0, ("rule", "low", 1, (1,))), (n(A), 0, ("rule", "low", 0, ()))))
        self.assertEqual(paper(m(A), (), Rule(m(T), n(T), m(B)), Rule(m(T), n(T)), Rule(n(T)), Rule(n(B))),
                         ((m(A), 0, ("rule", "low", 0, (1, 2))), (n(A), 0, ("rule", "low", 2, ())),
                          (m(B), 0, ("rule", "low", 0, (3, 2))), (n(B), 0, ("rule", "low", 2, ()))))
        self.assertEqual(paper(m(A), (), Rule(m(A), n(B)), Rule(m(T), n(T)), Rule(n(A))),
                         ((m(A), 0, ("rule", "low", 1, (1,))), (n(A), 0, ("rule", "low", 2, ()))))

    def test_rings(self):
        """Marks in a ring are resolved, plain questions in a ring are not; what lies behind a ring is seen."""
        self.assertEqual(paper(m(T), (), Rule(m(T), m(T))), ((m(T), 0, ("rule", "low", 0, (0,))),))
        self.assertIsNone(paper(p(T), (), Rule(p(T), p(T))))
        self.assertIsNone(paper(p(T), (), Rule(p(T), q(T)), Rule(q(T), p(T))))
        self.assertIsNone(paper(m(T), (), Rule(m(T), n(T), m(T)), Rule(n(f(T)))))
        self.assertEqual(paper(p(T), (), Rule(p(T), q(T)), Rule(q(T), p(T)), Rule(q(T), m(T)), Rule(m(T), m(T))), (
            (p(T), 2, ("rule", "low", 0, (1,))), (q(T), 1, ("rule", "low", 2, (2,))), (m(T), 0, ("rule", "low", 3, (2,)))))

    def test_no_answer(self):
        error = raised(NoAnswer, resolve, House(low()), "low", p(f(T)), [p(T)])
        self.assertEqual(error.question, p(f(T)))
        self.assertEqual(raised(NoAnswer, resolve, house=House(low()), name="low", question=m(A), wants=()).question, m(A))

    def test_a_hundred_entries(self):
        digits = [("num." + letter,) for letter in "abcdefghij"]
        rules = []
        for one, other in zip(digits, digits[1:]):
            rules.append(Rule(("num.t", T, one), ("num.t", T, other)))
            rules.append(Rule(("num.t", one, digits[9]), ("num.t", other, digits[0])))
        rules += [Rule(("num.t", digits[9], digits[9])), Rule(("num.u", T), ("num.t", digits[0], digits[0]))]
        house = House(Package("num", sorts=[(letter, 0) for letter in "abcdefghij"],
                              traits=[("t", 2, False, ()), ("u", 1, False, ())], rules=rules))
        start = ("num.t", digits[0], digits[0])
        found = resolve(house, "num", start, ())
        self.assertEqual((len(found), found[0][1], found[99][:2]), (100, 100, (("num.t", digits[9], digits[9]), 1)))
        self.assertEqual(raised(TooMany, resolve, house, "num", ("num.u", T), ()).limit, 100)
        self.assertEqual(len(resolve(house, "num", ("num.u", T), [start])), 2)
        # Not resolved goes before too many: the last digits have no rule, behind more than a hundred questions.
        gone = House(Package("num", sorts=[(letter, 0) for letter in "abcdefghij"],
                             traits=[("t", 2, False, ()), ("u", 1, False, ())], rules=rules[:-2] + rules[-1:]))
        raised(NoAnswer, resolve, gone, "num", ("num.u", T), ())

    def test_the_example(self):
        want = ("base.show", "T")
        tell = Package("tell", "base", functions=[Function("twice", "T", wants=[want], body=[
            ("ask", ("base.show", ("base.list", "T")))])])
        self.assertEqual(resolve(House(base(), shop(), tell), "tell", ("base.show", ("base.list", "T")), [want]), (
            (("base.show", ("base.list", "T")), 1, ("rule", "base", 1, (1,))), (("base.show", "T"), 0, ("want", 0))))

    def test_what_resolves_answers(self):
        """For ground terms with which the wants hold, the entries hold, and the rules named for plain ones answer."""
        source, many = random.Random(21), 0
        for _ in range(1500):
            one = random_looked(source, 0, source.choice([6, 12]))
            house = House(one, random_seeing(source, one, functions=0))
            if not all(is_let_by(house, name) for name in house.names):
                continue
            name = source.choice(house.names)
            question, wants = random_wanting(source, house, name, KINDS, [T, U, f(T), A])
            try:
                found = resolve(house, name, question, wants)
            except NoAnswer:
                continue
            for _ in range(8):
                fill = {T: random_ground(source), U: random_ground(source)}
                if all(holds(house, slow_fill(want, fill)) for want in wants):
                    for asked, _, reason in found:
                        filled = slow_fill(asked, fill)
                        self.assertTrue(holds(house, filled))
                        if reason[0] == "rule" and house.sort_of(asked[0]) == "trait":
                            self.assertEqual(ask(house, filled), reason[1:3])
                            many += 1
        self.assertGreater(many, 300)

    def test_random_questions(self):
        source, found = random.Random(22), Counter()
        for _ in range(500):
            house, name, kinds = random_house(source)
            if house is None:
                continue
            for _ in range(4):
                question, wants = random_wanting(source, house, name, kinds, [T, U, A, B, f(T), g(T, U), f(f(A))])
                told = SlowResolve(house, name, question, wants).paper()
                if told is None:
                    raised(NoAnswer, resolve, house, name, question, wants)
                else:
                    self.assertEqual(resolve(house, name, question, wants), told)
                found[None if told is None else min(len(told), 4)] += 1
                source_paper = told or ((question, 0, ("want", 0)),)
                pool = [*PLAIN_VALUES, "rule", "want", 0, 1, 2, ("want", 0), *source_paper, *[one[0] for one in source_paper],
                        *[one[2] for one in source_paper]]
                for other in random_papers(source, source_paper, pool, changed):
                    index = wrong_index(check_resolved, house, name, question, wants, other)
                    self.assertEqual(index, slow_resolved_check(house, name, question, wants, other), other)
                    found["check", index] += 1
        self.assertTrue(all(found[one] > 5 for one in (None, 1, 2, 3, ("check", 1), ("check", None))), found)


def random_house(source):
    """A house, the name of a package without complaints about words and forms, and kinds of questions."""
    one = random_looked(source, 0, source.choice([4, 8]))
    house = House(one, random_seeing(source, one, functions=0))
    name = source.choice(house.names)
    if wrong_words(house, name) or wrong_forms(house, name):
        return None, None, None
    return house, name, KINDS + ([("high.t", 1, False), ("high.k", 1, True)] if name == "high" else [])


RULES = [Rule(p(f(T)), q(T), m(T)), Rule(q(f(T)), p(T)), Rule(m(f(T)), m(T)), Rule(m(f(T)), n(T)), Rule(n(T), n(T)),
         SoftRule(q(T)), SoftRule(r(f(T), U), p(T)), Rule(r(f(A), A), p(A))]
HIGH = Package("high", "low", sorts=[("c", 0)], rules=[Rule(p(("high.c",)))])
HOUSE = House(low(*RULES), HIGH)
WANTS = [p(T), m(T), p(T)]
QUESTION = p(f(f(T)))
PAPER = ((QUESTION, 2, ("rule", "low", 0, (1, 2))), (q(f(T)), 1, ("rule", "low", 1, (3,))),
         (m(f(T)), 0, ("rule", "low", 2, (4,))), (p(T), 0, ("want", 0)), (m(T), 0, ("want", 1)))


def bad(thing, question=QUESTION, wants=WANTS, name="low"):
    return wrong_index(check_resolved, HOUSE, name, question, wants, thing)


def put(at, *entry):
    return PAPER[:at] + (entry,) + PAPER[at + 1:]


class Check(unittest.TestCase):
    def test_what_resolve_returns(self):
        self.assertEqual(resolve(HOUSE, "low", QUESTION, WANTS), PAPER)
        self.assertIs(check_resolved(house=HOUSE, name="low", question=QUESTION, wants=tuple(WANTS), thing=PAPER), True)

    def test_no_paper(self):
        for thing in (*PLAIN_VALUES, list(PAPER), (PAPER,), PAPER[::-1], PAPER[1:]):
            self.assertEqual(raised(BadPaper, check_resolved, HOUSE, "low", QUESTION, WANTS, thing).index, 0, thing)
        self.assertEqual(bad(PAPER, question=p(f(f(U)))), 0)
        self.assertEqual(bad(PAPER, wants=WANTS[1:2]), 3)

    def test_another_order_and_entries_that_nothing_mentions(self):
        self.assertIsNone(bad(((QUESTION, 2, ("rule", "low", 0, (4, 2))), (p(T), 0, ("want", 2)),
                               (m(f(T)), 0, ("rule", "low", 2, (3,))), (m(T), 0, ("want", 1)),
                               (q(f(T)), 1, ("rule", "low", 1, (1,))))))
        more = ((n(A), 0, ("rule", "low", 4, (5,))), (m(f(A)), 0, ("rule", "low", 3, (5,))))
        self.assertIsNone(bad(PAPER + more))
        self.assertIsNone(bad(PAPER + ((n(("far.far", "Z999")), 0, ("rule", "low", 4, (5,))),)))
        self.assertEqual(bad(PAPER + more[1:]), 5)

    def test_greater_rounds(self):
        self.assertIsNone(bad((PAPER[0][:1] + (9,) + PAPER[0][2:], PAPER[1][:1] + (8,) + PAPER[1][2:], *PAPER[2:])))
        self.assertEqual(bad(put(1, q(f(T)), 2, PAPER[1][2])), 0)
        self.assertEqual(bad(put(0, QUESTION, 1, PAPER[0][2])), 0)
        self.assertEqual(bad(put(0, QUESTION, 0, PAPER[0][2])), 0)

    def test_a_want_with_a_rule(self):
        """An entry whose question is a want may have a rule as its reason; then its round is that of a rule."""
        wants = [*WANTS, q(f(T))]
        self.assertIsNone(bad(PAPER, wants=wants))
        self.assertIsNone(bad(put(1, q(f(T)), 0, ("want", 3)), wants=wants))
        self.assertEqual(bad(put(1, q(f(T)), 0, PAPER[1][2]), wants=wants), 1)
        self.assertEqual(bad(put(1, q(f(T)), 1, ("want", 3)), wants=wants), 1)

    def test_rounds(self):
        for thing in (True, -1, None, "1", [1], 2):
            self.assertEqual(bad(put(1, q(f(T)), thing, PAPER[1][2])), 0)
        self.assertEqual(bad(put(1, q(f(T)), 0, PAPER[1][2])), 1)
        for thing in (False, 1, -1, None):
            self.assertEqual(bad(put(2, m(f(T)), thing, PAPER[2][2])), 2)
            self.assertEqual(bad(put(4, m(T), thing, ("want", 1))), 4)
        # Of a plain question, the round of the mentioned entry matters, so the entry that mentions it is wrong.
        for thing in (False, 1, -1, None):
            self.assertEqual(bad(put(3, p(T), thing, ("want", 0))), 1)

    def test_reasons(self):
        for reason in (("want", 1), ("want", True), ("want", -1), ("want", 3), ("want", "0"), ("want",), ("want", 0, 0),
                       ["want", 0], "want", None, (), ("rule", "low", 0, ()), ("wish", 0), (["want"], 0)):
            self.assertEqual(bad(put(3, p(T), 0, reason)), 3, reason)
        for reason in (("rule", "low", 0, (3,)), ("rule", "low", True, (3,)), ("rule", "low", 1, [3]), ("rule", "low", 1, ()),
                       ("rule", "low", 1, (3, 3)), ("rule", "low", 1, (True,)), ("rule", "low", 1, (-2,)),
                       ("rule", "low", 1, (5,)), ("rule", "low", 1, (2,)), ("rule", "low", 1, (4,)), ("rule", "low", -7, (3,)),
                       ("rule", "low", 99, (3,)), ("rule", "far", 1, (3,)), ("rule", None, 1, (3,)), ("rule", ["low"], 1, (3,)),
                       ("rule", "low", 1), ("rule", "low", 1, (3,), 0), ["rule", "low", 1, (3,)], ("rule", "low", 1, None),
                       ("rule", "high", 0, ()), ("rule", "low", 5, ()), ("rules", "low", 1, (3,)), ("low", 1, (3,))):
            self.assertEqual(bad(put(1, q(f(T)), 1, reason)), 1, reason)

    def test_a_rule_for_another_trait(self):
        """Its head would fit if it were for the trait of the question."""
        house = House(low(Rule(q(T)), Rule(p(T)), Rule(n(T))))
        for rule, found in ((1, None), (0, 0), (2, 0)):
            self.assertEqual(wrong_index(check_resolved, house, "low", p(f(T)), (), ((p(f(T)), 1, ("rule", "low", rule, ())),)),
                             found)

    def test_rules_that_can_be_used(self):
        """The soft rule of q is not firm where the rule of q(f(T)) meets the question, or where it is not shut."""
        self.assertIsNone(bad(((q(A), 1, ("rule", "low", 5, ())),), question=q(A)))
        self.assertIsNone(bad(((q(g(T, U)), 1, ("rule", "low", 5, ())),), question=q(g(T, U))))
        for question in (q(f(A)), q(T), q(f(T))):
            self.assertEqual(bad(((question, 1, ("rule", "low", 5, ())),), question=question), 0)
        self.assertEqual(bad(((q(A), 1, ("rule", "low", 5, ())),), question=q(A), name="high"), 0)
        c = ("high.c",)
        self.assertIsNone(bad(((q(c), 1, ("rule", "low", 5, ())),), question=q(c), name="high"))
        self.assertIsNone(bad(((p(c), 1, ("rule", "high", 0, ())),), question=p(c), name="high"))
        self.assertEqual(bad(((p(c), 1, ("rule", "high", 0, ())),), question=p(c), name="low"), 0)
        two = ((r(f(B), T), 1, ("rule", "low", 6, (1,))), (p(B), 0, ("want", 0)))
        self.assertEqual(bad(two, question=r(f(B), T), wants=[p(B)]), 0)
        one = ((r(f(B), f(T)), 1, ("rule", "low", 6, (1,))), (p(B), 0, ("want", 0)))
        self.assertIsNone(bad(one, question=r(f(B), f(T)), wants=[p(B)]))

    def test_questions(self):
        for thing in (None, (), "T", p("t"), p(()), ("low.p",), ("low.p", T, T, T, T), ["low.p", T], ("low", T), (p, T),
                      ("low.p", ["low.a"]), ("low.p", None)):
            self.assertEqual(bad(put(4, thing, 0, ("want", 1))), 2, thing)
            self.assertEqual(bad(PAPER + ((thing, 0, ("want", 1)),)), 5, thing)
        self.assertEqual(bad(put(4, m(U), 0, ("want", 1))), 2)
        for entry in (None, (), (n(A),), [n(A), 0, ("rule", "low", 4, (5,))], (n(A), 0), (n(A), 0, ("rule", "low", 4, (5,)), 0)):
            self.assertEqual(bad((*PAPER, entry)), 5, entry)

    def test_two_entries_with_one_question(self):
        self.assertEqual(bad(PAPER + PAPER[3:4]), 5)
        self.assertEqual(bad(PAPER[:4] + PAPER[3:]), 2)
        self.assertEqual(bad(PAPER + PAPER[:1]), 5)

    def test_values_that_are_deep(self):
        deep = A
        for _ in range(5000):
            deep = f(deep)
        for entry in (deep, (deep, 0, ()), (n(A), deep, ()), (n(A), 0, deep), (n(A), 0, ("rule", deep, 4, (5,))),
                      (n(A), 0, ("rule", "low", deep, (5,))), (n(A), 0, ("rule", "low", 4, (deep,)))):
            try:
                check_resolved(HOUSE, "low", QUESTION, WANTS, PAPER + (entry,))
                self.fail()
            except BadPaper as error:
                self.assertEqual(error.index, 5)
        self.assertIs(check_resolved(HOUSE, "low", QUESTION, WANTS, PAPER + ((n(deep), 0, ("rule", "low", 4, (5,))),)), True)


ASK = ("ask", p(f(T)))


class Steps(unittest.TestCase):
    def wrong(self, *functions, rules=RULES):
        house = House(low(*rules, functions=functions))
        found = wrong_steps(house, "low")
        self.assertEqual(found, slow_steps(house, "low"))
        return found

    def test_functions_without_steps(self):
        self.assertEqual(self.wrong(), ())
        self.assertEqual(self.wrong(Function("one"), Function("two", T, wants=[p(T)])), ())

    def test_asks(self):
        one = Function("one", T, wants=[q(T), m(T)], body=[ASK, ("ask", p(T)), ("ask", q(T)), ("ask", p(f(f(T)))), ASK])
        self.assertEqual(self.wrong(one), (("step", 0, 1), ("step", 0, 3)))
        self.assertEqual(self.wrong(Function("no"), one, one.__class__("two", T, body=[ASK])),
                         (("step", 1, 1), ("step", 1, 3), ("step", 2, 0)))

    def test_calls(self):
        """Each want of the function called, filled, must be resolved; one without wants can always be called."""
        free = Function("free", T)
        one = Function("one", T, U, wants=[p(T), m(U)], body=[])
        two = Function("two", T, wants=[p(T), m(T)], body=[
            ("call", "low.one", T, T), ("call", "low.one", T, f(T)), ("call", "low.one", f(T), T), ("call", "low.free", g(T, T)),
            ("call", "low.one", f(f(T)), f(f(T))), ("call", "low.one", T, A), ("call", "low.one", T, f(A))])
        self.assertEqual(self.wrong(free, one, two), (("step", 2, 2), ("step", 2, 5)))
        three = Function("three", U, wants=[q(U), m(U)], body=[("call", "low.one", f(U), f(U)), ("call", "low.one", U, U)])
        self.assertEqual(self.wrong(free, one, three), (("step", 2, 1),))

    def test_functions_of_packages_that_are_seen(self):
        want = ("base.show", T)
        tell = Package("tell", "base", functions=[Function("twice", T, wants=[want], body=[
            ("ask", ("base.show", listed(T)))])])
        use = Package("use", "tell", "base", functions=[
            Function("good", U, wants=[("base.show", U)], body=[("call", "tell.twice", listed(U)), ("call", "tell.twice", INT)]),
            Function("bad", U, body=[("call", "tell.twice", INT), ("call", "tell.twice", U), ("call", "use.good", U)])])
        house = House(base(), tell, use)
        self.assertEqual(wrong_steps(house=house, name="use"), (("step", 1, 1), ("step", 1, 2)))
        self.assertEqual(wrong_steps(house, "tell"), ())

    def test_random_functions(self):
        source, many = random.Random(23), 0
        for _ in range(400):
            one = random_looked(source, 4, 6)
            house = House(one, random_seeing(source, one, functions=4))
            for name in house.names:
                if not wrong_words(house, name):
                    found = wrong_steps(house, name)
                    self.assertEqual(found, slow_steps(house, name))
                    many += len(found)
        self.assertGreater(many, 300)


if __name__ == "__main__":
    unittest.main()
