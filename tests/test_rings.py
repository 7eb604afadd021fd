"""Rings of marks, all rules that answer, and the answers without soft rules: points 12, 13, 14."""

import random
import unittest

from helping import (A, B, LOW_SORTS, LOW_TRAITS, Slow, f, g, raised, random_ground, random_high, random_let_by,
                     random_low, random_question)
from nevermet.asking import ask
from nevermet.chains import chain, hardened
from nevermet.errors import NoAnswer, TooMany, UnknownWord
from nevermet.houses import House
from nevermet.packages import Package
from nevermet.rings import rings
from nevermet.rules import Rule, SoftRule


def alone(*rules):
    return House(Package("low", sorts=LOW_SORTS, traits=LOW_TRAITS, rules=rules))


def p(term):
    return ("low.p", term)


def q(term):
    return ("low.q", term)


def m(term):
    return ("low.m", term)


def n(term):
    return ("low.n", term)


def o(one, other):
    return ("low.o", one, other)


def nested(deep, inner=A):
    for _ in range(deep):
        inner = f(inner)
    return inner


def slow_rings(house, question):
    """The classes, found by going along the answers as often as there are questions."""
    slow = Slow(house, question)
    leads = {one: set(slow.answer(one)[2]) for one in slow.held}
    led = {one: set(leads[one]) for one in leads}
    for _ in leads:
        led = {one: led[one].union(*[leads[other] for other in led[one]]) for one in led}
    found = {question} | led[question]
    classes = {tuple(sorted(other for other in found if other in led[one] and one in led[other])) for one in found}
    return tuple(sorted(classes - {()}))


class Rings(unittest.TestCase):
    def test_a_mark_that_leads_nowhere(self):
        self.assertEqual(rings(alone(Rule(m("T"))), m(A)), ())
        self.assertEqual(rings(alone(Rule(m("T"), n("T")), Rule(n("T"), o("T", "T")), Rule(o("T", "U"))), m(A)), ())

    def test_one_step(self):
        self.assertEqual(rings(alone(Rule(m("T"), m("T"))), m(A)), ((m(A),),))
        self.assertEqual(rings(alone(Rule(m("T"), n("T")), Rule(n("T"), n("T"))), m(A)), ((n(A),),))

    def test_rings_of_two_and_three(self):
        self.assertEqual(rings(alone(Rule(m("T"), n("T")), Rule(n("T"), m("T"))), n(A)), ((m(A), n(A)),))
        house = alone(Rule(m("T"), o("T", A)), Rule(o("T", "U"), n("T")), Rule(n("T"), m("T")))
        self.assertEqual(rings(house, o(B, A)), ((m(B), n(B), o(B, A)),))

    def test_one_ring_leads_to_the_other(self):
        house = alone(Rule(m("T"), n("T")), Rule(n(f("T")), m(f("T")), m("T")), Rule(n("T"), m("T")))
        self.assertEqual(rings(house, m(f(A))), ((m(A), n(A)), (m(f(A)), n(f(A)))))
        self.assertEqual(rings(house, n(f(A))), ((m(A), n(A)), (m(f(A)), n(f(A)))))
        self.assertEqual(rings(house, m(A)), ((m(A), n(A)),))
        self.assertEqual(rings(house, m(f(f(A)))), ((m(A), n(A)), (m(f(A)), n(f(A))), (m(f(f(A))), n(f(f(A))))))

    def test_rings_within_a_ring(self):
        """Two rings that share a question are one class."""
        house = alone(Rule(m("T"), n("T"), o("T", "T"), m("T")), Rule(n("T"), m("T")), Rule(o("T", "U"), m("U")))
        self.assertEqual(rings(house, o(A, A)), ((m(A), n(A), o(A, A)),))

    def test_the_way_into_a_ring_is_not_in_it(self):
        house = alone(Rule(m(f("T")), m("T")), Rule(m(A), n(A)), Rule(n(A), m(A)))
        self.assertEqual(rings(house, m(f(f(A)))), ((m(A), n(A)),))

    def test_only_the_answers_lead(self):
        house = alone(Rule(m("T"), n("T")), Rule(m("T"), m("T")), Rule(n(A)), Rule(o("T", "U")), Rule(o("T", "U"), m("T")))
        self.assertEqual(rings(house, m(A)), ())
        self.assertEqual(rings(house, m(B)), ((m(B),),))
        self.assertEqual(rings(house, o(B, B)), ())

    def test_ascending(self):
        """As Python orders tuples: the trait first, then the words from left to right."""
        house = alone(Rule(o("T", "U"), o("U", "T"), m("T"), n("U")), Rule(m(f("T")), m(f("T"))), Rule(m(B), n(B)),
                      Rule(n("T"), n("T")))
        found = rings(house, o(f(A), B))
        self.assertEqual(found, tuple(sorted(found)))
        self.assertEqual(found, ((m(f(A)),), (n(B),), (n(f(A)),), (o(B, f(A)), o(f(A), B))))

    def test_order_of_deep_questions(self):
        deep, deeper = nested(4000, B), nested(4001, A)
        house = alone(Rule(o("T", "U"), o("U", "T"), m("T")), Rule(m("T"), m("T")))
        found = rings(house, o(deeper, deep))
        self.assertEqual([len(ring) for ring in found], [1, 1, 2])
        self.assertEqual([one[0] for ring in found for one in ring], ["low.m", "low.m", "low.o", "low.o"])
        # The words from the outside in are the same until the one with fewer signs f ends: `low.b` is less than `low.f`.
        self.assertEqual([self.deep(ring[0][1]) for ring in found], [4001, 4002, 4001])

    def deep(self, term):
        count = 1
        while len(term) > 1:
            term, count = term[1], count + 1
        return count

    def test_no_answer(self):
        self.assertEqual(raised(NoAnswer, rings, alone(), m(A)).question, m(A))
        house = alone(Rule(m("T"), n("T")), Rule(n("T"), m("T"), o("T", "T")))
        self.assertEqual(raised(NoAnswer, rings, house, n(A)).question, n(A))

    def test_errors_in_order(self):
        house = alone(Rule(m(f("T")), m("T")))
        self.assertEqual(raised(UnknownWord, rings, house, ("low.k", nested(301))).word, "low.k")
        self.assertEqual(raised(UnknownWord, rings, house, m(nested(301, ("low.c",)))).word, "low.c")
        self.assertEqual(raised(TooMany, rings, house, m(nested(300))).limit, 300)
        self.assertEqual(raised(NoAnswer, rings, house, m(nested(299))).question, m(nested(299)))

    def test_a_ring_of_300(self):
        house = alone(Rule(m(f("T")), m("T"), n("T")), Rule(m(A)), Rule(n("T"), n("T")))
        self.assertEqual(len(rings(house, m(nested(149)))), 149)
        rules = [Rule(m(f("T")), m("T")), Rule(m(A), n(A)), Rule(n("T"), n("T"))]
        self.assertEqual(rings(alone(*rules), m(nested(298))), ((n(A),),))

    def test_random_houses(self):
        source = random.Random(41)
        many = {}
        for _ in range(600):
            house = House(random_low(source))
            question = (source.choice(["low.m", "low.n"]), random_ground(source))
            if Slow(house, question).refuted.get(question) is None:
                found = rings(house, question)
                self.assertEqual(found, slow_rings(house, question))
                many[len(found)] = many.get(len(found), 0) + 1
        self.assertGreater(min(many[k] for k in (0, 1, 2)), 4, many)

    def test_by_name(self):
        self.assertEqual(rings(question=m(A), house=alone(Rule(m("T")))), ())


class Chain(unittest.TestCase):
    def test_each_one_beneath_the_next(self):
        rules = [SoftRule(("low.r", "T", "U")), SoftRule(("low.r", f("T"), "U")), Rule(("low.r", f(A), f("T")))]
        for order in ([0, 1, 2], [2, 1, 0], [1, 2, 0], [2, 0, 1]):
            house = alone(*[rules[k] for k in order])
            for question, wanted in [(("low.r", f(A), f(B)), [2, 1, 0]), (("low.r", f(A), B), [1, 0]),
                                     (("low.r", B, B), [0])]:
                self.assertEqual(chain(house, question), tuple(("low", order.index(k)) for k in wanted))

    def test_conditions_that_do_not_hold(self):
        house = alone(SoftRule(p("T"), q("T"), m("T")), SoftRule(p(f("T")), m(f("T"))), Rule(p(f(A))), Rule(m(f("T"))),
                      Rule(q(f(f("T")))), Rule(m(A)))
        self.assertEqual(chain(house, p(f(A))), (("low", 2), ("low", 1)))
        self.assertEqual(chain(house, p(f(f(A)))), (("low", 1), ("low", 0)))
        self.assertEqual(chain(house, p(f(B))), (("low", 1),))
        self.assertEqual(chain(house, p(A)), ())

    def test_refuted(self):
        self.assertEqual(chain(alone(), p(A)), ())
        self.assertEqual(chain(alone(Rule(p("T"), p("T"))), p(A)), ())

    def test_over_packages(self):
        low = Package("low", sorts=LOW_SORTS, traits=LOW_TRAITS, rules=[SoftRule(p("T"))])
        house = House(low, Package("high", "low", sorts=[("c", 1)], rules=[SoftRule(p(("high.c", "T"))),
                                                                          Rule(p(("high.c", A)))]))
        self.assertEqual(chain(house, p(("high.c", A))), (("high", 1), ("high", 0), ("low", 0)))
        self.assertEqual(chain(question=p(("high.c", B)), house=house), (("high", 0), ("low", 0)))

    def test_errors_in_order(self):
        house = alone(Rule(p(f("T")), p("T")))
        for call in (chain, hardened):
            self.assertEqual(raised(UnknownWord, call, house, ("low.k", nested(301))).word, "low.k")
            self.assertEqual(raised(UnknownWord, call, house, p(g(("low.y",), ("low.x",)))).word, "low.x")
            self.assertEqual(raised(TooMany, call, house, p(nested(300))).limit, 300)
            self.assertFalse(call(house, p(nested(299))))

    def test_random_houses(self):
        source = random.Random(42)
        many = {}
        for _ in range(400):
            low = random_let_by(source)
            house = House(low, random_high(source, low))
            question = (source.choice(["low.p", "low.q"]), random_ground(source, (A, B, ("high.c",))))
            found = chain(house, question)
            slow = Slow(house, question)
            self.assertEqual(sorted(found), sorted(use[0] for use in slow.answering(question)))
            self.assertEqual(found[:1], (ask(house, question),) if question in slow.held else ())
            many[len(found)] = many.get(len(found), 0) + 1
        self.assertGreater(min(many[k] for k in (0, 1, 2)), 20, many)


class Hardened(unittest.TestCase):
    def test_the_same_index(self):
        rules = [SoftRule(p("T")), Rule(p(f("T")), q("T")), SoftRule(q("T")), Rule(q(A))]
        house = alone(*rules)
        self.assertEqual(hardened(house, p(f(A))), ("low", 1))
        self.assertEqual(ask(house, p(f(A))), ("low", 1))

    def test_none(self):
        house = alone(SoftRule(p("T")), Rule(p(f("T")), q("T")), SoftRule(q("T")), Rule(q(A)))
        self.assertIsNone(hardened(house, p(A)))
        self.assertIsNone(hardened(house, p(f(B))))
        self.assertEqual(ask(house, p(f(B))), ("low", 1))
        self.assertIsNone(hardened(alone(), p(A)))

    def test_the_hard_rule_above(self):
        """Without the soft rule beneath it answers what then holds, and nothing that asks soft rules."""
        house = alone(Rule(p(f("T")), m("T")), SoftRule(p("T"), m(A)), Rule(m("T")), Rule(q("T"), p("T")))
        self.assertEqual(hardened(house, q(f(A))), ("low", 3))
        self.assertIsNone(hardened(house, q(A)))
        self.assertEqual(ask(house, q(A)), ("low", 3))

    def test_a_soft_rule_that_reaches_too_much(self):
        house = alone(SoftRule(p("T"), q("T")), Rule(q(f("T")), q("T")), Rule(p(f("T"))))
        self.assertEqual(raised(TooMany, hardened, house, p(nested(300))).limit, 300)
        self.assertEqual(hardened(house, p(nested(298))), ("low", 2))

    def test_random_houses(self):
        source = random.Random(43)
        found = []
        for _ in range(400):
            low = random_let_by(source)
            hard = [k for k, rule in enumerate(low.rules) if not rule.soft]
            other = Package("low", sorts=low.sorts, traits=low.traits, rules=[low.rules[k] for k in hard])
            question = random_question(source)
            answer = ask(House(other), question)
            found.append(hardened(House(low), question))
            self.assertEqual(found[-1], answer and ("low", hard[answer[1]]))
        self.assertGreater(len([one for one in found if one]), 50)

    def test_by_name(self):
        self.assertEqual(hardened(question=p(A), house=alone(Rule(p("T")))), ("low", 0))


if __name__ == "__main__":
    unittest.main()
