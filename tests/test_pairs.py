"""Pairs of rules that meet, and the reasons why they may: points 9, 19, 20."""

import random
import unittest

from helping import A, B, LOW_SORTS, LOW_TRAITS, f, g
from looking import random_looked, random_seeing, slow_pairs, slow_reason
from nevermet.houses import House
from nevermet.packages import Package
from nevermet.pairs import judged_pair, met_pairs
from nevermet.rules import Rule, SoftRule
from nevermet.tables import lasting_table
from nevermet.words import wrong_forms, wrong_words

X, Y = "X", "Y"


def p(term):
    return ("low.p", term)


def q(term):
    return ("low.q", term)


def r(one, other):
    return ("low.r", one, other)


def low(*rules, **more):
    return Package("low", sorts=LOW_SORTS, traits=LOW_TRAITS, rules=rules, **more)


def alone(*rules):
    return House(low(*rules))


def reason(*rules):
    """The reason for the rule 1 and the rule 0 of a package."""
    return judged_pair(alone(*rules), "low", 1, ("low", 0))


class Met(unittest.TestCase):
    def test_own_rules_ahead_and_all_rules_seen(self):
        """In order: by the index, then by the package; own rules stand between those of the packages seen."""
        one = low(SoftRule(p("T")), Rule(q("T")), Rule(p(f("T"))))
        c = ("high.c",)
        mid = Package("high", "low", "zed", sorts=[("c", 0)], rules=[
            Rule(p(c)), Rule(q(c)), Rule(p("T")), SoftRule(p(f(c))), Rule(p(A))])
        zed = Package("zed", "low", sorts=[("z", 0)], rules=[Rule(p(("zed.z",))), Rule(p(f(("zed.z",))))])
        house = House(one, mid, zed, Package("other", "low", sorts=[("o", 0)], rules=[Rule(p("T"))]))
        self.assertEqual(list(met_pairs(house, "low")), [(2, ("low", 0))])
        self.assertEqual(list(met_pairs(house, "high")), [
            (0, ("low", 0)), (1, ("low", 1)),
            (2, ("high", 0)), (2, ("low", 0)), (2, ("low", 2)), (2, ("zed", 0)), (2, ("zed", 1)),
            (3, ("high", 2)), (3, ("low", 0)), (3, ("low", 2)),
            (4, ("high", 2)), (4, ("low", 0))])
        self.assertEqual(list(met_pairs(name="zed", house=house)), [(0, ("low", 0)), (1, ("low", 0)), (1, ("low", 2))])

    def test_marks_are_not_looked_at(self):
        house = alone(Rule(("low.m", "T")), Rule(("low.m", A)), Rule(("low.m", A)), Rule(p(A)), Rule(p(A)))
        self.assertEqual(list(met_pairs(house, "low")), [(4, ("low", 3))])

    def test_rules_that_do_not_meet(self):
        house = alone(Rule(p(A)), Rule(p(B)), Rule(q(A)), Rule(p(f("T"))), Rule(r("T", "T")), Rule(r("T", f("T"))),
                      Rule(r(A, B)), Rule(r("T", "U")))
        self.assertEqual(list(met_pairs(house, "low")), [(7, ("low", 4)), (7, ("low", 5)), (7, ("low", 6))])

    def test_variables_with_one_name_are_different_ones(self):
        self.assertEqual(list(met_pairs(alone(Rule(p("T")), Rule(p(f("T")))), "low")), [(1, ("low", 0))])

    def test_walked_by_turns(self):
        house = alone(SoftRule(p("T")), Rule(p(A)), Rule(p(f("T"))), Rule(p(f(A))))
        one, other = met_pairs(house, "low"), met_pairs(house, "low")
        found = [(next(one), next(other)) for _ in range(4)]
        self.assertEqual(found, [(pair, pair) for pair in [
            (1, ("low", 0)), (2, ("low", 0)), (3, ("low", 0)), (3, ("low", 2))]])
        self.assertEqual([*one, *other], [])
        self.assertEqual(list(met_pairs(House(Package("no")), "no")), [])

    def test_random_packages(self):
        source, many = random.Random(3), 0
        for _ in range(500):
            one = random_looked(source, 0, 8)
            house = House(one, random_seeing(source, one, functions=0))
            for name in ("low", "high"):
                if not wrong_words(house, name) and not wrong_forms(house, name):
                    found = list(met_pairs(house, name))
                    self.assertEqual(found, list(slow_pairs(house, name)))
                    for i, other in found:
                        self.assertEqual(judged_pair(house, name, i, other),
                                         slow_reason(house, name, house.rule(name, i), house.rule(*other)))
                    many += len(found)
        self.assertGreater(many, 500)


class Ordered(unittest.TestCase):
    def test_beneath_and_above(self):
        self.assertEqual(reason(SoftRule(p("T")), Rule(p(A))), ("beneath",))
        self.assertEqual(reason(Rule(p(A)), SoftRule(p("T"))), ("above",))
        self.assertEqual(reason(SoftRule(p("T")), SoftRule(p(A))), ("beneath",))
        self.assertEqual(judged_pair(house=alone(SoftRule(p("T")), Rule(p(A))), name="low", i=1, other=("low", 0)),
                         ("beneath",))

    def test_the_upper_rule_is_soft(self):
        self.assertIsNone(reason(Rule(p("T")), Rule(p(A))))
        self.assertIsNone(reason(Rule(p("T")), SoftRule(p(A))))
        self.assertIsNone(reason(SoftRule(p(A)), Rule(p("T"))))

    def test_conditions_of_the_lower_rule(self):
        """They are conditions of the upper rule, after both are filled: all, some or none of these."""
        upper = SoftRule(p(f("T")), p("T"), q("T"), q(f("T")))
        held = [Rule(p(A)), Rule(q(A)), Rule(q(f("T"))), Rule(p(f(A)))]
        lower = [p(A), q(A), q(f(A))]
        for kept in ([], lower[:1], lower[1:], lower[::-1], lower):
            rule = Rule(p(f(A)), *kept)
            house = alone(upper, rule, *held[:3])
            self.assertEqual(judged_pair(house, "low", 1, ("low", 0)), ("beneath",))
            house = alone(rule, upper, *held[:3])
            self.assertEqual(judged_pair(house, "low", 1, ("low", 0)), ("above",))
        for more in (p(f(A)), q(A)):
            house = alone(SoftRule(p(f("T")), p("T")), Rule(p(f(A)), p(A), more), *held)
            self.assertIsNone(judged_pair(house, "low", 1, ("low", 0)))

    def test_filled_by_a_unifier_of_the_heads(self):
        """The variables of the one rule are others than those of the other one."""
        self.assertEqual(reason(SoftRule(r("T", "U"), r("U", "T")), Rule(r(f("U"), "T"), r("T", f("U")))), ("beneath",))
        house = alone(SoftRule(r("T", "U"), r("T", "U"), q("T")), Rule(r(f("U"), "T"), r("T", f("U"))), Rule(q(A)),
                      SoftRule(q("T")))
        self.assertIsNone(judged_pair(house, "low", 1, ("low", 0)))

    def test_variants(self):
        for kind in (Rule, SoftRule):
            for other in (Rule, SoftRule):
                self.assertIsNone(reason(kind(p(f("T"))), other(p(f("U")))))
                self.assertIsNone(reason(kind(p(A)), other(p(A))))

    def test_neither_is_beneath_the_other(self):
        self.assertIsNone(reason(SoftRule(r("T", f("U"))), SoftRule(r(f("T"), "U"))))

    def test_heads_with_many_variables(self):
        def big(term):
            return ("low.g", ("low.g", term("A"), term("B")), ("low.g", term("C"), ("low.g", term("D"), term("E"))))
        upper = SoftRule(r(big(lambda one: one), big(lambda one: one + "1")), q("A"), q("E1"))
        lower = Rule(r(big(lambda one: "T"), big(lambda one: f("U"))), q("T"), q(f("U")))
        self.assertEqual(reason(upper, lower), ("beneath",))
        same = r(big(lambda one: one + "2"), big(lambda one: one + "2"))
        self.assertEqual(reason(upper, Rule(same, q("E2"), q("A2"))), ("beneath",))
        self.assertIsNone(reason(upper, Rule(same, q("B2"))))
        self.assertEqual(reason(upper, Rule(same, ("low.p", A)))[:3], ("apart", 0, 0))


class Apart(unittest.TestCase):
    def test_a_condition_of_the_one_or_of_the_other(self):
        no, yes = q(B), q(A)
        held = Rule(q(A))
        table = lasting_table(alone(held), "low", no)
        self.assertEqual(table, ((no, 0, ()),))
        for ones, others, found in [([no], [], (0, 0)), ([], [no], (1, 0)), ([no], [no], (0, 0)),
                                    ([yes, no], [no], (0, 1)), ([yes, yes], [yes, yes, no], (1, 2)),
                                    ([yes], [yes], None), ([], [], None), ([yes, yes, yes, no], [no], (0, 3))]:
            house = alone(Rule(p(f("T")), *others), Rule(p(f(A)), *ones), held)
            expected = None if found is None else ("apart", *found, table)
            self.assertEqual(judged_pair(house, "low", 1, ("low", 0)), expected)

    def test_the_condition_is_filled(self):
        """It lasts only because the unifier makes it a question that nobody answers."""
        house = alone(Rule(r(f("T"), "U"), q("T")), Rule(r(f(A), B)), Rule(q(B)))
        self.assertEqual(judged_pair(house, "low", 1, ("low", 0)), ("apart", 1, 0, ((q(A), 0, ()),)))
        house = alone(Rule(r(f("T"), "U"), q("U")), Rule(r("T", f("T"))), Rule(q(B)))
        self.assertEqual(judged_pair(house, "low", 1, ("low", 0)), ("apart", 1, 0, ((q(f(f("V0"))), 0, ()),)))
        house = alone(Rule(r(f("T"), "U"), q("T")), Rule(r(f("T"), B)), Rule(q(B)))
        self.assertIsNone(judged_pair(house, "low", 1, ("low", 0)))

    def test_ordered_goes_before_apart(self):
        self.assertEqual(reason(SoftRule(p("T"), q(B)), Rule(p(A), q(B))), ("beneath",))
        self.assertEqual(reason(SoftRule(p("T")), Rule(p(A), q(B))), ("apart", 0, 0, ((q(B), 0, ()),)))

    def test_for_the_package_that_is_looked_at(self):
        """What lasts for `high` need not last for `low`, and only its own rule is behind that of `low`."""
        c = ("high.c",)
        house = House(low(Rule(p("T"), q("T"))), Package("high", "low", sorts=[("c", 0)], rules=[Rule(p(c))]))
        self.assertEqual(judged_pair(house, "high", 0, ("low", 0)), ("apart", 1, 0, ((q(c), 0, ()),)))
        house = House(low(Rule(p("T"), q(A)), Rule(q(A))), Package("high", "low", sorts=[("c", 0)], rules=[Rule(p(c))]))
        self.assertIsNone(judged_pair(house, "high", 0, ("low", 0)))
        house = House(low(Rule(p("T"), q(A))), Package("high", "low", sorts=[("c", 0)], rules=[Rule(p(c))]))
        self.assertIsNone(judged_pair(house, "high", 0, ("low", 0)))

    def test_a_hundred_questions_and_one_more(self):
        """The question t(a, a) reaches all hundred questions about two of ten constants, counted like two digits."""
        digits = [("low." + letter,) for letter in "abcdefghij"]
        rules = [Rule(("low.u", "T"), ("low.t", digits[0], digits[0]))]
        for one, other in zip(digits, digits[1:]):
            rules.append(Rule(("low.t", "T", one), ("low.t", "T", other)))
            rules.append(Rule(("low.t", one, digits[9]), ("low.t", other, digits[0])))
        traits = [("s", 1, False, ()), ("t", 2, False, ()), ("u", 1, False, ())]
        for asked, many in ((("low.t", digits[0], digits[0]), 100), (("low.u", digits[0]), None),
                            (("low.t", digits[0], digits[1]), 99)):
            one = Package("low", sorts=[(letter, 0) for letter in "abcdefghij"], traits=traits,
                          rules=[Rule(("low.s", "T"), asked), Rule(("low.s", digits[3])), *rules])
            found = judged_pair(House(one), "low", 1, ("low", 0))
            self.assertEqual(None if found is None else (found[:3], len(found[3])),
                             None if many is None else (("apart", 1, 0), many))


if __name__ == "__main__":
    unittest.main()
