"""What is reached from ground questions, whether they hold, and their answers: points 1, 11, 12, 13."""

import random
import unittest

from helping import (A, B, INT, LOW_SORTS, LOW_TRAITS, Slow, base, f, g, listed, raised, random_ground, random_high,
                     random_let_by, random_low, random_question, shop, tower)
from nevermet.asking import ask, holds
from nevermet.chains import chain, hardened
from nevermet.errors import NoAnswer, TooMany, UnknownWord
from nevermet.evidence import evidence, round_of
from nevermet.functions import Function
from nevermet.houses import House
from nevermet.packages import Package
from nevermet.reach import reached
from nevermet.refutation import refutation
from nevermet.rings import rings
from nevermet.rules import Rule, SoftRule

HOUSE = House(base(), shop())
ITEM = ("shop.item",)
EVERY = (reached, holds, ask, evidence, round_of, refutation, chain, hardened, rings)
WITH_BY = (holds, ask, evidence, refutation)


def low(*rules, name="low", needs=(), sorts=LOW_SORTS, traits=LOW_TRAITS):
    return Package(name, *needs, sorts=sorts, traits=traits, rules=rules)


def alone(*rules):
    return House(low(*rules))


def nested(deep, inner=A):
    for _ in range(deep):
        inner = f(inner)
    return inner


class Reached(unittest.TestCase):
    def test_first_mention(self):
        house = alone(Rule(("low.p", f("T")), ("low.q", "T"), ("low.p", "T")),
                      Rule(("low.p", f(A)), ("low.m", A), ("low.q", A), ("low.r", A, f(A))),
                      Rule(("low.q", A), ("low.n", A), ("low.p", A)),
                      Rule(("low.p", A), ("low.q", B)))
        self.assertEqual(reached(house, ("low.p", f(A))), (
            ("low.p", f(A)), ("low.q", A), ("low.p", A), ("low.m", A), ("low.r", A, f(A)), ("low.n", A), ("low.q", B)))

    def test_rules_in_order_over_packages(self):
        high = Package("high", "low", sorts=[("c", 0)], rules=[Rule(("low.p", A), ("low.q", A))])
        early = Package("early", "low", rules=[Rule(("low.p", A), ("low.q", B)), Rule(("low.p", A), ("low.m", A))])
        house = House(high, low(Rule(("low.p", "T"), ("low.n", "T"))), early)
        self.assertEqual(reached(house, ("low.p", A)), (
            ("low.p", A), ("low.q", B), ("low.m", A), ("low.q", A), ("low.n", A)))

    def test_nothing_but_itself(self):
        self.assertEqual(reached(alone(), ("low.r", A, f(B))), (("low.r", A, f(B)),))
        self.assertEqual(reached(alone(Rule(("low.p", B), ("low.p", A))), ("low.p", A)), (("low.p", A),))

    def test_itself_again(self):
        house = alone(Rule(("low.p", "T"), ("low.p", "T"), ("low.q", "T")), Rule(("low.q", "T"), ("low.p", "T")))
        self.assertEqual(reached(house, ("low.p", A)), (("low.p", A), ("low.q", A)))

    def test_repeated_variables(self):
        house = alone(Rule(("low.p", g("T", "T")), ("low.q", "T")))
        self.assertEqual(reached(house, ("low.p", g(f(A), f(A)))), (("low.p", g(f(A), f(A))), ("low.q", f(A))))
        self.assertEqual(reached(house, ("low.p", g(f(A), f(B)))), (("low.p", g(f(A), f(B))),))

    def test_conditions_that_hold_or_not(self):
        """Soft rules count, and all conditions do, whether others are refuted or not."""
        house = alone(SoftRule(("low.p", "T"), ("low.q", "T"), ("low.q", B), ("low.m", A)))
        self.assertEqual(reached(house, ("low.p", A)), (("low.p", A), ("low.q", A), ("low.q", B), ("low.m", A)))

    def test_the_limit(self):
        house = alone(Rule(("low.p", A)), Rule(("low.p", f("T")), ("low.p", "T")))
        self.assertEqual(reached(house, ("low.p", nested(299))),
                         tuple(("low.p", nested(299 - k)) for k in range(300)))
        self.assertEqual(raised(TooMany, reached, house, ("low.p", nested(300))).limit, 300)

    def test_the_limit_holds_within_one_rule(self):
        """The last rule brings two new questions at once, or one that is there already."""
        rules = [Rule(("low.p", f("T")), ("low.p", "T")), Rule(("low.p", A), ("low.q", A), ("low.q", B))]
        self.assertEqual(len(reached(alone(*rules), ("low.p", nested(297)))), 300)
        self.assertEqual(raised(TooMany, reached, alone(*rules), ("low.p", nested(298))).limit, 300)
        rules[1] = Rule(("low.p", A), ("low.q", A), ("low.p", A))
        self.assertEqual(len(reached(alone(*rules), ("low.p", nested(298)))), 300)

    def test_terms_of_any_size(self):
        deep = tower(4000)
        self.assertEqual(len(reached(HOUSE, ("base.show", ITEM))), 1)
        house = alone(Rule(("low.r", "T", "U"), ("low.p", "T"), ("low.m", "U")), Rule(("low.p", f(f("T"))), ("low.q", A)))
        one, other = nested(5000), nested(3000, B)
        found = reached(house, ("low.r", one, other))
        self.assertEqual([question[0] for question in found], ["low.r", "low.p", "low.m", "low.q"])
        self.assertEqual(raised(TooMany, reached, HOUSE, ("base.show", deep)).limit, 300)

    def test_large_terms_are_quick(self):
        term = A
        for _ in range(14):
            term = g(term, f(term))
        house = alone(Rule(("low.p", g("T", f("T"))), ("low.p", "T")), Rule(("low.p", g("T", "U")), ("low.q", "U")))
        self.assertEqual(len(reached(house, ("low.p", term))), 29)

    def test_packages_that_are_not_let_by(self):
        """Conditions of unknown words are reached too; rules for them fit, as point 9 says."""
        odd = low(Rule(("low.m", "T"), ("low.p", "T")), Rule(("low.p", "T"), ("no.where", "T"), ("low.q", ("no.sort",))),
                  Rule(("no.where", A), ("low.q", A)))
        self.assertEqual(reached(House(odd), ("low.m", A)), (
            ("low.m", A), ("low.p", A), ("no.where", A), ("low.q", ("no.sort",)), ("low.q", A)))

    def test_other_numbers_of_places_and_parts(self):
        """Rules whose heads name a word with another number of places or parts do not fit."""
        odd = low(Rule(("low.p", "T", "U"), ("low.q", "T")), Rule(("low.p", ("low.f",)), ("low.q", A)),
                  Rule(("low.p", ("low.f", "T", "U")), ("low.q", B)), Rule(("low.p", ("low.g", "T")), ("low.q", "T")),
                  Rule(("low.r", "T"), ("low.q", "T")), Rule(("low.r", "T", "U", "V"), ("low.q", "T")))
        for question in (("low.p", f(A)), ("low.p", g(A, B)), ("low.r", A, A)):
            self.assertEqual(reached(House(odd), question), (question,))

    def test_three_places(self):
        more = [*LOW_TRAITS, ("w", 3, False, ()), ("x", 3, True, ())]
        house = House(low(Rule(("low.w", "T", f("U"), "T"), ("low.x", "U", "T", A)), traits=more))
        self.assertEqual(reached(house, ("low.w", B, f(A), B)), (("low.w", B, f(A), B), ("low.x", A, B, A)))
        self.assertEqual(reached(house, ("low.w", B, f(A), A)), (("low.w", B, f(A), A),))

    def test_random_houses(self):
        source = random.Random(11)
        for _ in range(300):
            house = House(random_low(source))
            question = random_question(source)
            self.assertEqual(reached(house, question), tuple(Slow(house, question).order))

    def test_by_name(self):
        self.assertEqual(reached(house=HOUSE, question=("base.show", INT)), (("base.show", INT),))


class Unknown(unittest.TestCase):
    def words(self, question, house=HOUSE, **more):
        """The word that all functions with these arguments raise."""
        calls = WITH_BY if more else EVERY
        found = {raised(UnknownWord, call, house, question, **more).word for call in calls}
        self.assertEqual(len(found), 1)
        return found.pop()

    def test_words_that_nobody_declares(self):
        self.assertEqual(self.words(("base.shown", INT)), "base.shown")
        self.assertEqual(self.words(("base.show", ("base.it",))), "base.it")
        self.assertEqual(self.words(("base.show", ("other.int",))), "other.int")
        self.assertEqual(self.words(("base.show", listed(listed(("no.no",))))), "no.no")

    def test_the_least_one(self):
        self.assertEqual(self.words(("no.c", ("no.b",))), "no.b")
        self.assertEqual(self.words(("no.a", ("no.b",))), "no.a")
        self.assertEqual(self.words(("base.show", ("no.z", ("no.b",), ("no.y",)))), "no.b")
        self.assertEqual(self.words(("base.show", ("no.z", ("base.int",), ("no.y",)))), "no.y")

    def test_what_stands_for_something_else(self):
        self.assertEqual(self.words(("base.int", INT)), "base.int")
        self.assertEqual(self.words(("base.show", ("base.show",))), "base.show")
        self.assertEqual(self.words(("base.show", ("base.list", ("base.show",)))), "base.show")
        house = House(low(), Package("do", "low", functions=[Function("it", "T")]))
        self.assertEqual(self.words(("do.it", A), house), "do.it")
        self.assertEqual(self.words(("low.p", ("do.it", A)), house), "do.it")
        self.assertEqual(self.words(("low.p", ("low.m",)), house), "low.m")

    def test_marks_and_plain_traits_are_known(self):
        self.assertEqual([holds(alone(), ("low." + name, A)) for name in "pm"], [False, False])

    def test_by(self):
        self.assertEqual(self.words(("base.show", ITEM), by="base"), "shop.item")
        self.assertTrue(holds(HOUSE, ("base.show", ITEM), by="shop"))
        house = House(low(), Package("far", traits=[("t", 1, False, ())], sorts=[("c", 0)]))
        self.assertEqual(self.words(("far.t", A), house, by="low"), "far.t")
        self.assertEqual(self.words(("far.t", ("far.c",)), house, by="low"), "far.c")
        self.assertEqual(self.words(("low.p", ("far.c",)), house, by="far"), "low.p")

    def test_before_too_many(self):
        self.assertEqual(self.words(("base.show", tower(400, ("base.it",)))), "base.it")
        self.assertEqual(self.words(("base.show", tower(400, ITEM)), by="base"), "shop.item")

    def test_the_empty_house(self):
        self.assertEqual(self.words(("low.p", A), House()), "low.a")


class Many(unittest.TestCase):
    def test_too_many(self):
        house = alone(Rule(("low.p", f("T")), ("low.p", "T")), Rule(("low.m", f("T")), ("low.m", "T")),
                      Rule(("low.p", A)), Rule(("low.m", A)))
        for call in EVERY:
            trait = "low.m" if call is rings else "low.p"
            call(house, (trait, nested(299)))
            self.assertEqual(raised(TooMany, call, house, (trait, nested(300))).limit, 300)
        for call in WITH_BY:
            self.assertEqual(raised(TooMany, call, house, ("low.p", nested(300)), by="low").limit, 300)

    def test_with_by_only_the_rules_of_the_view_count(self):
        """The whole house reaches too much here, so it is not let by; the view alone does not."""
        other = Package("other", "low", rules=[Rule(("low.p", f("T")), ("low.p", "T"))])
        house = House(low(Rule(("low.p", "T"))), other)
        question = ("low.p", nested(300))
        self.assertTrue(holds(house, question, by="low"))
        self.assertEqual(raised(TooMany, holds, house, question).limit, 300)
        self.assertEqual(raised(TooMany, holds, house, question, by="other").limit, 300)


class Holds(unittest.TestCase):
    def yes(self, question, *rules):
        found = holds(alone(*rules), question)
        self.assertIsInstance(found, bool)
        return found

    def test_marks_without_a_rule_that_fits(self):
        self.assertIs(self.yes(("low.m", A)), False)
        self.assertIs(self.yes(("low.m", A), Rule(("low.m", B)), Rule(("low.n", A)), Rule(("low.p", A))), False)

    def test_marks_with_rules(self):
        self.assertIs(self.yes(("low.m", A), Rule(("low.m", "T"))), True)
        self.assertIs(self.yes(("low.m", A), Rule(("low.m", "T"), ("low.n", "T"))), False)
        self.assertIs(self.yes(("low.m", A), Rule(("low.m", "T"), ("low.n", "T")), Rule(("low.n", A))), True)
        self.assertIs(self.yes(("low.m", A), Rule(("low.m", "T"), ("low.n", "T"), ("low.n", B)), Rule(("low.n", A))),
                      False)
        self.assertIs(self.yes(("low.m", A), Rule(("low.m", "T"), ("low.n", "T")), Rule(("low.m", A))), True)

    def test_marks_in_rings(self):
        self.assertIs(self.yes(("low.m", A), Rule(("low.m", "T"), ("low.m", "T"))), True)
        ring = [Rule(("low.m", "T"), ("low.n", "T")), Rule(("low.n", "T"), ("low.o", "T", "T")),
                Rule(("low.o", "T", "U"), ("low.m", "T"))]
        self.assertIs(self.yes(("low.m", A), *ring), True)
        self.assertIs(self.yes(("low.n", A), *ring), True)

    def test_marks_in_rings_that_something_refutes(self):
        ring = [Rule(("low.m", "T"), ("low.n", "T")), Rule(("low.n", "T"), ("low.m", "T"), ("low.o", "T", "T"))]
        self.assertIs(self.yes(("low.m", A), *ring), False)
        self.assertIs(self.yes(("low.n", A), *ring), False)
        self.assertIs(self.yes(("low.m", A), *ring, Rule(("low.o", A, "T"))), True)
        self.assertIs(self.yes(("low.m", B), *ring, Rule(("low.o", A, "T"))), False)

    def test_plain_questions(self):
        self.assertIs(self.yes(("low.p", A)), False)
        self.assertIs(self.yes(("low.p", A), Rule(("low.p", "T"))), True)
        self.assertIs(self.yes(("low.p", A), SoftRule(("low.p", "T"), ("low.q", "T"))), False)
        self.assertIs(self.yes(("low.p", A), SoftRule(("low.p", "T"), ("low.q", "T")), Rule(("low.q", A))), True)
        self.assertIs(self.yes(("low.p", A), Rule(("low.p", "T"), ("low.q", "T"), ("low.q", B)), Rule(("low.q", A))),
                      False)

    def test_plain_questions_in_rings(self):
        self.assertIs(self.yes(("low.p", A), Rule(("low.p", "T"), ("low.p", "T"))), False)
        ring = [Rule(("low.p", "T"), ("low.q", "T")), Rule(("low.q", "T"), ("low.p", "T"))]
        self.assertIs(self.yes(("low.p", A), *ring), False)
        self.assertIs(self.yes(("low.p", A), *ring, Rule(("low.q", A))), True)
        self.assertIs(self.yes(("low.p", A), *ring, Rule(("low.p", A))), True)

    def test_the_same_condition_twice(self):
        self.assertIs(self.yes(("low.p", A), Rule(("low.p", "T"), ("low.q", "T"), ("low.q", "T")), Rule(("low.q", A))),
                      True)
        self.assertIs(self.yes(("low.m", A), Rule(("low.m", "T"), ("low.n", "T"), ("low.n", "T")),
                               Rule(("low.m", "T"), ("low.m", "T"))), True)
        self.assertIs(self.yes(("low.m", A), Rule(("low.m", "T"), ("low.n", "T"), ("low.n", "T"))), False)

    def test_plain_rules_with_conditions_of_marks(self):
        rule = Rule(("low.p", "T"), ("low.m", "T"))
        self.assertIs(self.yes(("low.p", A), rule), False)
        self.assertIs(self.yes(("low.p", A), rule, Rule(("low.m", "T"), ("low.n", "T"))), False)
        self.assertIs(self.yes(("low.p", A), rule, Rule(("low.m", "T"), ("low.m", "T"))), True)
        self.assertIs(self.yes(("low.p", A), Rule(("low.p", "T"), ("low.m", "T"), ("low.q", "T")),
                               Rule(("low.m", "T")), Rule(("low.q", "T"), ("low.p", "T"))), False)

    def test_packages_that_are_not_let_by(self):
        """Two hard rules that fit, and a rule that is not in place."""
        other = Package("other", "low", rules=[Rule(("low.p", "T"), ("low.q", "T")), Rule(("low.q", A))])
        house = House(low(Rule(("low.p", "T"))), other)
        self.assertIs(holds(house, ("low.q", A)), True)
        self.assertIs(holds(house, ("low.q", A), by="low"), False)
        self.assertIs(holds(house, ("low.q", A), by="other"), True)
        self.assertIs(holds(house, ("low.p", B), by="other"), True)

    def test_with_by_words_outside_the_view_are_no_marks(self):
        """The trait of the condition is a mark of a package that is not seen, so it is none in this view."""
        far = Package("far", traits=[("k", 1, True, ())])
        house = House(low(Rule(("low.p", "T"), ("far.k", "T")), Rule(("far.k", "T"), ("far.k", "T"))), far)
        self.assertIs(holds(house, ("low.p", A)), True)
        self.assertIs(holds(house, ("low.p", A), by="low"), False)

    def test_large_terms(self):
        house = alone(Rule(("low.r", "T", f("U")), ("low.p", "T"), ("low.m", "U")), Rule(("low.p", "T")),
                      Rule(("low.m", f("T")), ("low.m", f("T"))))
        self.assertIs(holds(house, ("low.r", nested(5000), nested(5000, B))), True)
        self.assertIs(holds(house, ("low.r", nested(5000), A)), False)

    def test_random_houses(self):
        source = random.Random(12)
        found = []
        for _ in range(600):
            house = House(random_low(source))
            question = random_question(source)
            found.append(holds(house, question))
            self.assertIs(found[-1], question in Slow(house, question).held)
        self.assertGreater(found.count(True), 50)
        self.assertGreater(found.count(False), 100)

    def test_random_houses_with_by(self):
        """The view of the lower package is the house without the other one."""
        source = random.Random(13)
        for _ in range(200):
            one = random_low(source)
            other = Package("other", "low", rules=random_low(source).rules)
            question = random_question(source)
            self.assertIs(holds(House(one, other), question, by="low"), holds(House(one), question))
            self.assertIs(holds(House(one, other), question, by="other"), holds(House(one, other), question))

    def test_arguments(self):
        self.assertIs(holds(house=HOUSE, question=("base.show", INT), by="base"), True)
        self.assertRaises(TypeError, holds, HOUSE, ("base.show", INT), "base")
        self.assertRaises(TypeError, ask, HOUSE, ("base.show", INT), "base")


class Ask(unittest.TestCase):
    def test_example(self):
        question = ("base.show", listed(ITEM))
        self.assertEqual([ask(HOUSE, question), ask(HOUSE, question, by="shop")], [("base", 1), ("base", 1)])

    def test_none(self):
        self.assertIsNone(ask(alone(), ("low.p", A)))
        self.assertIsNone(ask(alone(Rule(("low.m", "T"), ("low.n", "T"))), ("low.m", A)))

    def test_two_deep(self):
        soft = SoftRule(("low.p", "T"), ("low.q", "T"))
        for rules, question, wanted in [
                ([soft, Rule(("low.p", f("T"))), Rule(("low.q", "T"))], ("low.p", f(A)), 1),
                ([soft, Rule(("low.p", f("T"))), Rule(("low.q", "T"))], ("low.p", A), 0),
                ([soft, Rule(("low.p", f("T")))], ("low.p", f(A)), 1),
                ([soft, Rule(("low.p", f("T")))], ("low.p", A), None),
                ([Rule(("low.p", f("T"))), soft, Rule(("low.q", "T"))], ("low.p", f(A)), 0),
                ([soft, SoftRule(("low.p", f("T")), ("low.q", f("T"))), Rule(("low.q", "T"))], ("low.p", f(A)), 1)]:
            found = ask(alone(*rules), question)
            self.assertEqual(found, None if wanted is None else ("low", wanted))

    def test_three_deep(self):
        wholes = [SoftRule(("low.r", "T", "U"), ("low.m", "T"), ("low.m", "U")),
                  SoftRule(("low.r", f("T"), "U"), ("low.m", f("T"))), Rule(("low.r", f(A), f("T")))]
        marks = [Rule(("low.m", "T"), ("low.n", "T")), Rule(("low.n", f("T"))), Rule(("low.n", B))]
        for order in ([0, 1, 2], [2, 1, 0], [1, 2, 0], [2, 0, 1]):
            rules = [wholes[k] for k in order] + marks
            for question, wanted in [(("low.r", f(A), f(B)), 2), (("low.r", f(A), B), 1), (("low.r", f(B), A), 1),
                                     (("low.r", B, B), 0), (("low.r", A, B), None)]:
                found = ask(alone(*rules), question)
                self.assertEqual(found, None if wanted is None else ("low", order.index(wanted)))

    def test_conditions_that_do_not_hold(self):
        """A rule that does not hold lets the one above it answer, where it holds."""
        upper = SoftRule(("low.p", "T"), ("low.m", "T"), ("low.n", "T"))
        lower = Rule(("low.p", f("T")), ("low.n", f("T")))
        house = alone(lower, upper, Rule(("low.m", "T")), Rule(("low.n", f("T"))))
        self.assertEqual(ask(house, ("low.p", f(A))), ("low", 0))
        self.assertIsNone(ask(house, ("low.p", A)))
        house = alone(Rule(("low.p", f("T")), ("low.q", "T")), SoftRule(("low.p", "T"), ("low.m", "T")),
                      Rule(("low.m", "T")), Rule(("low.q", A)))
        self.assertEqual(ask(house, ("low.p", f(B))), ("low", 1))

    def test_the_first_rule_for_a_mark(self):
        rules = [Rule(("low.m", A), ("low.n", B)), Rule(("low.m", "T"), ("low.n", "T")), Rule(("low.m", "T")),
                 Rule(("low.m", A)), Rule(("low.n", A))]
        self.assertEqual(ask(alone(*rules), ("low.m", A)), ("low", 1))
        self.assertEqual(ask(alone(*rules), ("low.m", B)), ("low", 2))
        own = Package("early", "low", sorts=[("c", 0)], rules=[Rule(("low.m", ("early.c",)))])
        self.assertEqual(ask(House(low(*rules), own), ("low.m", ("early.c",))), ("early", 0))
        last = Package("zoo", "low", sorts=[("c", 0)], rules=[Rule(("low.m", ("zoo.c",)))])
        self.assertEqual(ask(House(low(*rules), last), ("low.m", ("zoo.c",))), ("low", 2))

    def test_indexes_of_many_rules(self):
        rules = [Rule(("low.q", nested(k))) for k in range(5)] * 5 + [Rule(("low.p", A))]
        self.assertEqual(ask(alone(*rules), ("low.p", A)), ("low", 25))

    def test_random_houses(self):
        source = random.Random(14)
        found = []
        for _ in range(400):
            one = random_let_by(source)
            house = House(one, random_high(source, one), random_high(source, one, "other"))
            leaves = source.choice([(A, B), (A, B, ("high.c",)), (A, B, ("other.c",))])
            question = random_question(source, leaves)
            slow = Slow(house, question)
            found.append(ask(house, question))
            self.assertEqual(found[-1], slow.answer(question)[0] if question in slow.held else None)
            self.same_for_all(house, question, found[-1])
        self.assertGreater(len([one for one in found if one is None]), 50)
        self.assertGreater(len([one for one in found if one]), 50)

    def same_for_all(self, house, question, answer):
        """Each package that has the words gets the same answer, evidence and refutation."""
        for name in house.names:
            try:
                self.assertEqual(ask(house, question, by=name), answer)
            except UnknownWord:
                continue
            self.assertEqual(holds(house, question, by=name), answer is not None)
            self.assertEqual(refutation(house, question, by=name), refutation(house, question))
            if answer is not None:
                self.assertEqual(evidence(house, question, by=name), evidence(house, question))
            else:
                self.assertEqual(raised(NoAnswer, evidence, house, question, by=name).question, question)

    def test_by_name(self):
        self.assertEqual(ask(question=("base.show", ITEM), house=HOUSE, by="shop"), ("shop", 0))

    def test_nothing_is_kept(self):
        """A house is the same before and after it is asked, and other houses do not change its answers."""
        question = ("low.p", f(random_ground(random.Random(1))))
        one, other = alone(Rule(("low.p", "T"))), alone()
        self.assertEqual([ask(one, question), ask(other, question), ask(one, question)], [("low", 0), None, ("low", 0)])
        self.assertEqual(one, alone(Rule(("low.p", "T"))))


if __name__ == "__main__":
    unittest.main()
