"""Evidence, rounds, and the check of evidence: points 1, 2, 14."""

import random
import unittest

from helping import (A, B, INT, LOW_SORTS, LOW_TRAITS, PLAIN_VALUES, Slow, SlowCheck, base, changed, f, g, listed, raised,
                     random_high, random_let_by, random_low, random_question, shop, wrong_index)
from nevermet.errors import NoAnswer
from nevermet.evidence import evidence, round_of
from nevermet.evidencecheck import check_evidence
from nevermet.houses import House
from nevermet.packages import Package
from nevermet.refutation import refutation
from nevermet.refutationcheck import check_refutation
from nevermet.rules import Rule, SoftRule

HOUSE = House(base(), shop())
ITEM = ("shop.item",)
ROW = ("base.show", listed(ITEM))


def alone(*rules):
    return House(Package("low", sorts=LOW_SORTS, traits=LOW_TRAITS, rules=rules))


def p(term):
    return ("low.p", term)


def q(term):
    return ("low.q", term)


def m(term):
    return ("low.m", term)


def n(term):
    return ("low.n", term)


def nested(deep, inner=A):
    for _ in range(deep):
        inner = f(inner)
    return inner


def bad(house, paper, question=None):
    """The index of the first wrong entry, or None; it is also what the plain reading of the document finds."""
    asked = paper[0][0] if question is None else question
    found = wrong_index(check_evidence, house, asked, paper)
    if found != SlowCheck(house, "yes").wrong(asked, paper):
        raise AssertionError((found, paper))
    return found


class Evidence(unittest.TestCase):
    def test_example(self):
        self.assertEqual(evidence(HOUSE, ROW), ((ROW, 2, ("base", 1), (1,)),
                                                (("base.show", ITEM), 1, ("shop", 0), ())))

    def test_first_mention(self):
        house = alone(Rule(p(f("T")), q("T"), m("T"), p("T")), Rule(q(A), n(A), p(A)), Rule(p(A), n(A)),
                      Rule(m("T"), n("T")), Rule(n("T")))
        self.assertEqual(evidence(house, p(f(A))), (
            (p(f(A)), 3, ("low", 0), (1, 2, 3)), (q(A), 2, ("low", 1), (4, 3)), (m(A), 0, ("low", 3), (4,)),
            (p(A), 1, ("low", 2), (4,)), (n(A), 0, ("low", 4), ())))

    def test_each_question_once(self):
        house = alone(Rule(p("T"), q("T"), q("T"), q(A)), Rule(q("T")))
        self.assertEqual(evidence(house, p(A)), ((p(A), 2, ("low", 0), (1, 1, 1)), (q(A), 1, ("low", 1), ())))
        self.assertEqual(evidence(house, p(B)), ((p(B), 2, ("low", 0), (1, 1, 2)), (q(B), 1, ("low", 1), ()),
                                                 (q(A), 1, ("low", 1), ())))

    def test_rings_of_marks(self):
        house = alone(Rule(p("T"), m("T")), Rule(m("T"), n("T"), m("T")), Rule(n("T"), m("T")))
        self.assertEqual(evidence(house, p(A)), ((p(A), 1, ("low", 0), (1,)), (m(A), 0, ("low", 1), (2, 1)),
                                                 (n(A), 0, ("low", 2), (1,))))

    def test_only_the_answers_count(self):
        """The rule that is not the answer mentions nothing, though all its conditions hold."""
        house = alone(SoftRule(p("T"), q("T"), m("T")), Rule(p(f("T")), q(f("T"))), Rule(q("T")), Rule(m("T"), n("T")),
                      Rule(m("T")))
        self.assertEqual(evidence(house, p(f(A))), ((p(f(A)), 2, ("low", 1), (1,)), (q(f(A)), 1, ("low", 2), ())))
        self.assertEqual(evidence(house, p(A)), ((p(A), 2, ("low", 0), (1, 2)), (q(A), 1, ("low", 2), ()),
                                                 (m(A), 0, ("low", 4), ())))

    def test_no_answer(self):
        self.assertEqual(raised(NoAnswer, evidence, alone(), p(A)).question, p(A))
        self.assertEqual(raised(NoAnswer, evidence, alone(Rule(m("T"), n("T"))), m(B)).question, m(B))
        self.assertEqual(raised(NoAnswer, evidence, alone(), p(A), by="low").question, p(A))

    def test_random_houses(self):
        source = random.Random(21)
        count = 0
        for _ in range(400):
            low = random_let_by(source)
            house = House(low, random_high(source, low))
            question = random_question(source, (A, B, ("high.c",)))
            slow = Slow(house, question)
            self.assertEqual(round_of(house, question), slow.round(question))
            if question in slow.held:
                count += 1
                found = evidence(house, question)
                self.assertEqual(found, slow.evidence())
                self.assertTrue(check_evidence(house, question, found))
                self.assertIsNotNone(wrong_index(check_refutation, house, question, found))
            else:
                self.assertEqual(raised(NoAnswer, evidence, house, question).question, question)
                self.assertIsNotNone(wrong_index(check_evidence, house, question, refutation(house, question)))
        self.assertGreater(count, 80)

    def test_large_terms(self):
        house = alone(Rule(p(g("T", "U")), m("T"), q("U")), Rule(m("T")), Rule(q("T")))
        question = p(g(nested(5000), nested(4000, B)))
        found = evidence(house, question)
        self.assertEqual([entry[1:] for entry in found], [(2, ("low", 0), (1, 2)), (0, ("low", 1), ()),
                                                          (1, ("low", 2), ())])
        self.assertTrue(check_evidence(house, question, found))
        self.assertEqual(bad_deep(house, question, found[:2] + ((q(nested(4001, B)), 1, ("low", 2), ()),)), 0)
        self.assertEqual(bad_deep(house, p(g(nested(5000), nested(4001, B))), found), 0)

    def test_long_evidence(self):
        house = alone(Rule(p(A)), Rule(p(f("T")), p("T")))
        found = evidence(house, p(nested(299)))
        self.assertEqual([entry[1] for entry in found], list(range(300, 0, -1)))
        self.assertTrue(check_evidence(house, p(nested(299)), found))
        self.assertEqual(bad_deep(house, p(nested(299)), found[:-1] + ((p(A), 2, ("low", 0), ()),)), 298)

    def test_arguments(self):
        self.assertEqual(evidence(question=ROW, house=HOUSE, by="shop"), evidence(HOUSE, ROW))
        self.assertRaises(TypeError, evidence, HOUSE, ROW, "shop")
        self.assertEqual(round_of(question=ROW, house=HOUSE), 2)
        self.assertTrue(check_evidence(thing=evidence(HOUSE, ROW), question=ROW, house=HOUSE))


def bad_deep(house, question, paper):
    try:
        return check_evidence(house, question, paper) is not True
    except Exception as error:
        return error.index


class Rounds(unittest.TestCase):
    def test_questions_that_hold(self):
        house = alone(Rule(p(A)), Rule(p(f("T")), p("T"), m("T")), Rule(m("T")), Rule(q("T"), m("T")))
        self.assertEqual([round_of(house, one) for one in (p(A), p(f(A)), p(f(f(A))), m(A), q(A))], [1, 2, 3, 0, 1])

    def test_the_greatest_of_several(self):
        house = alone(Rule(p(A)), Rule(p(f("T")), p("T")), Rule(q(f("T")), p(A), p(f("T")), p("T")))
        self.assertEqual(round_of(house, q(f(f(A)))), 4)

    def test_of_the_answer_alone(self):
        house = alone(SoftRule(p("T"), q("T")), Rule(p(A)), Rule(q("T")))
        self.assertEqual([round_of(house, p(A)), round_of(house, p(B))], [1, 2])

    def test_refuted_questions(self):
        house = alone(Rule(p("T"), q("T")), Rule(m(f("T")), m("T")), Rule(m(g("T", "U")), m("T"), m("U")),
                      Rule(m(g("T", "U")), m("U")))
        self.assertEqual([round_of(house, one) for one in (p(A), q(A))], [0, 0])
        self.assertEqual([round_of(house, m(nested(k))) for k in range(4)], [1, 2, 3, 4])
        self.assertEqual(round_of(house, m(g(nested(4), A))), 2)
        self.assertEqual(round_of(house, m(g(A, nested(4)))), 6)
        self.assertEqual(round_of(house, m(g(nested(2), nested(4)))), 6)


GOOD = alone(Rule(p(f("T")), q("T"), m("T")), Rule(q("T"), m("T"), n("T")), Rule(m("T"), n("T")), Rule(n("T"), m("T")),
             SoftRule(p("T"), q("T")), Rule(n(A)))
PAPER = ((p(f(A)), 2, ("low", 0), (1, 2)), (q(A), 1, ("low", 1), (2, 3)), (m(A), 0, ("low", 2), (3,)),
         (n(A), 0, ("low", 3), (2,)))


def put(at, *entry):
    return PAPER[:at] + (entry,) + PAPER[at + 1:]


class Check(unittest.TestCase):
    def test_what_evidence_returns(self):
        self.assertEqual(evidence(GOOD, p(f(A))), PAPER)
        self.assertIsNone(bad(GOOD, PAPER))

    def test_another_order(self):
        paper = (PAPER[0][:3] + ((3, 2),), (n(A), 0, ("low", 3), (2,)), (m(A), 0, ("low", 2), (1,)),
                 (q(A), 1, ("low", 1), (2, 1)))
        self.assertIsNone(bad(GOOD, paper))

    def test_greater_rounds(self):
        self.assertIsNone(bad(GOOD, ((p(f(A)), 10 ** 30, ("low", 0), (1, 2)), (q(A), 7, ("low", 1), (2, 3))) + PAPER[2:]))
        self.assertIsNone(bad(GOOD, put(0, p(f(A)), 9, ("low", 0), (1, 2))))

    def test_what_nothing_mentions(self):
        self.assertIsNone(bad(GOOD, PAPER + ((n(B), 0, ("low", 3), (5,)), (m(B), 0, ("low", 2), (4,)))))
        self.assertEqual(bad(GOOD, PAPER + ((n(B), 0, ("low", 5), ()),)), 4)

    def test_another_rule_that_fits(self):
        self.assertIsNone(bad(GOOD, PAPER[:3] + ((n(A), 0, ("low", 5), ()),)))
        paper = ((p(f(A)), 3, ("low", 4), (4,)),) + PAPER[1:] + ((q(f(A)), 1, ("low", 1), (5, 6)),
                                                               (m(f(A)), 0, ("low", 2), (6,)),
                                                               (n(f(A)), 0, ("low", 3), (5,)))
        self.assertIsNone(bad(GOOD, paper))

    def test_rings(self):
        """Plain questions do not hold because of each other, whatever the rounds are."""
        ring = alone(Rule(p("T"), q("T")), Rule(q("T"), p("T")), Rule(m("T"), m("T")), Rule(m("T")))
        for here, there in [(1, 1), (1, 2), (2, 1), (0, 1), (5, 9)]:
            paper = ((p(A), here, ("low", 0), (1,)), (q(A), there, ("low", 1), (0,)))
            self.assertEqual(bad(ring, paper), 1 if here > there else 0)
        self.assertIsNone(bad(ring, ((m(A), 0, ("low", 2), (0,)),)))
        self.assertIsNone(bad(ring, ((m(A), 0, ("low", 3), ()),)))

    def test_kinds(self):
        for thing in PLAIN_VALUES:
            if not isinstance(thing, tuple) or not thing:
                self.assertEqual(wrong_index(check_evidence, GOOD, p(f(A)), thing), 0)
            for at, first in enumerate((0, 0, 0, 1)):
                self.assertEqual(bad(GOOD, PAPER[:at] + (thing,) + PAPER[at + 1:], p(f(A))), first)
            self.assertEqual(bad(GOOD, PAPER + (thing,)), 4)
        self.assertEqual(wrong_index(check_evidence, GOOD, p(f(A)), list(PAPER)), 0)
        self.assertEqual(bad(GOOD, PAPER + (list(PAPER[3]),)), 4)

    def test_the_entry_0_has_the_question(self):
        self.assertEqual(bad(GOOD, PAPER, p(f(B))), 0)
        self.assertEqual(bad(GOOD, PAPER, q(A)), 0)
        self.assertIsNone(bad(GOOD, ((q(A), 1, ("low", 1), (1, 2)), (m(A), 0, ("low", 2), (2,)),
                                     (n(A), 0, ("low", 3), (1,)))))
        self.assertEqual(bad(GOOD, PAPER[1:], p(f(A))), 0)

    def test_questions(self):
        for thing in (("low.n",), ("low.n", "T"), ("low.n", f("T")), ("low.n", A, A, A, A), ["low.n", A], ("n", A),
                      ("low.n", ["low.a"]), ("low.n", ()), ("low.n", ("low.a", 1)), None, A, ("low.n", "low.a"),
                      ("low.n.n", A), (("low.n", A),), ("low.n", ("low.f.x", A))):
            self.assertEqual(bad(GOOD, PAPER + ((thing, 0, ("low", 3), (2,)),)), 4)
            self.assertEqual(bad(GOOD, put(3, thing, 0, ("low", 3), (2,))), 1)

    def test_variables(self):
        """Also where the rule has no conditions."""
        house = alone(Rule(p("T")), Rule(("low.r", "T", "U")))
        for question, index in [(p("X"), 0), (p(f("X")), 0), (p(g(A, f("X"))), 0), (("low.r", A, "X"), 1),
                                (("low.r", "X", A), 1), (("low.r", A, f("X")), 1), (("low.r", f("X"), A), 1)]:
            self.assertEqual(bad(house, ((p(A), 1, ("low", 0), ()), (question, 1, ("low", index), ()))), 1)
            self.assertEqual(bad(house, ((question, 1, ("low", index), ()),)), 0)

    def test_three_places(self):
        more = [*LOW_TRAITS, ("w", 3, False, ()), ("x", 3, True, ())]
        rules = [Rule(("low.w", "T", f("U"), "T"), ("low.x", "U", "T", A)), Rule(("low.x", "T", "U", "V"))]
        house = House(Package("low", sorts=LOW_SORTS, traits=more, rules=rules))
        asked = ("low.w", B, f(A), B)
        paper = ((asked, 1, ("low", 0), (1,)), (("low.x", A, B, A), 0, ("low", 1), ()))
        self.assertEqual(evidence(house, asked), paper)
        self.assertIsNone(bad(house, paper))
        self.assertEqual(bad(house, paper[:1] + ((("low.x", A, B, B), 0, ("low", 1), ()),)), 0)
        self.assertEqual(bad(house, paper + ((("low.x", A, A, "X"), 0, ("low", 1), ()),)), 2)

    def test_a_question_twice(self):
        self.assertEqual(bad(GOOD, PAPER + PAPER[3:]), 4)
        self.assertEqual(bad(GOOD, PAPER + ((n(A), 0, ("low", 5), ()),)), 4)
        self.assertEqual(bad(GOOD, PAPER[:3] + (PAPER[2], PAPER[3])), 1)
        self.assertEqual(bad(GOOD, PAPER + PAPER[:1]), 4)

    def test_rounds(self):
        for thing in (-1, 0, True, False, None, "2", (2,), 1, [2]):
            self.assertEqual(bad(GOOD, put(0, p(f(A)), thing, ("low", 0), (1, 2))), 0)
        for thing in (-1, True, False, None, "1", 2):
            self.assertEqual(bad(GOOD, put(1, q(A), thing, ("low", 1), (2, 3))), 0)
        self.assertEqual(bad(GOOD, put(1, q(A), 0, ("low", 1), (2, 3))), 1)
        for thing in (-1, 1, True, False, None, 7):
            self.assertEqual(bad(GOOD, put(3, n(A), thing, ("low", 3), (2,))), 3)
        self.assertEqual(bad(GOOD, PAPER + ((q(B), 0, ("low", 1), (5, 6)), (m(B), 0, ("low", 2), (6,)),
                                            (n(B), 0, ("low", 3), (5,)))), 4)

    def test_rounds_of_what_is_mentioned(self):
        """Where no lesser round is wanted, the entry that mentions is right."""
        for entry in ((m(A),), (m(A), True), (m(A), 0), (m(A), None, 1, 1), (m(A), 0, ("low", 2), (3,), 1)):
            self.assertEqual(bad(GOOD, PAPER[:2] + (entry,) + PAPER[3:]), 2)
        for entry in ((q(A),), (q(A), True), (q(A), False), (q(A), -1), (q(A), "0"), (q(A), 2), (q(A), 9, ("low", 1))):
            self.assertEqual(bad(GOOD, PAPER[:1] + (entry,) + PAPER[2:]), 0)
        for entry in ((q(A), 1), (q(A), 1, None), (q(A), 1, ("low", 1), (2, 3), 4), (q(A), 0, ("low", 1), (2, 3))):
            self.assertEqual(bad(GOOD, PAPER[:1] + (entry,) + PAPER[2:]), 1)

    def test_rules(self):
        for thing in (("low", 2), ("low", 1), ("low", -6), ("low", 6), ("low", True), ("low", "0"), ("low", None), ("low",),
                      ("low", 0, 0), ["low", 0], ("no", 0), (None, 0), (("low",), 0), 0, "low", (), {}, ("low", 10 ** 59),
                      (["low"], 0), ({}, 0)):
            self.assertEqual(bad(GOOD, put(0, p(f(A)), 2, thing, (1, 2))), 0)
        self.assertEqual(bad(GOOD, put(3, n(A), 0, ("low", 2), (2,))), 3)
        self.assertEqual(bad(GOOD, put(3, n(A), 0, ("low", -3), (2,))), 3)
        self.assertEqual(bad(GOOD, put(3, n(A), 0, ("low", False), ())), 3)

    def test_terms_of_three_parts(self):
        """A term has no more parts; what is no term is no place of a question."""
        house = House(Package("w", sorts=[("c", 0), ("h", 3)], traits=[("t", 1, False, ())], rules=[Rule(("w.t", "T"))]))
        c, entry = ("w.c",), (1, ("w", 0), ())
        whole = ("w.t", ("w.h", c, ("w.h", c, c, c), c))
        self.assertEqual(evidence(house, whole), ((whole, *entry),))
        self.assertIsNone(wrong_index(check_evidence, house, whole, ((whole, *entry), (("w.t", whole[1][2]), *entry))))
        for term in (("w.h", c, c, c, c), ("w.h", c, c, ("w.h", c, c, c, c)), ("w.h", c, c, ["w.c"])):
            self.assertEqual(wrong_index(check_evidence, house, whole, ((whole, *entry), (("w.t", term), *entry))), 1)

    def test_a_rule_for_another_trait(self):
        """Its head would fit if it were for the trait of the question."""
        house = alone(Rule(q("T")), Rule(p(B)), Rule(p("T")))
        for rule, found in ((2, None), (0, 0), (1, 0)):
            self.assertEqual(wrong_index(check_evidence, house, p(A), ((p(A), 1, ("low", rule), ()),)), found)

    def test_numbers(self):
        for thing in ((), (1,), (1, 2, 2), (2, 1), (1, 3), (1, 4), (1, -2), (-3, 2), (True, 2), (1, "2"), (1, None),
                      [1, 2], None, 1, (1, (2,)), (0, 2), (1, 10 ** 59), {1: 2}):
            self.assertEqual(bad(GOOD, put(0, p(f(A)), 2, ("low", 0), thing)), 0)
        self.assertEqual(bad(GOOD, put(3, n(A), 0, ("low", 5), (2,))), 3)

    def test_conditions_without_a_lesser_round(self):
        house = alone(Rule(p("T"), q("T"), m("T")), Rule(q("T"), m("T")), Rule(m("T")))
        for here, there, found in [(2, 1, None), (2, 2, 0), (1, 1, 0), (2, 3, 0), (9, 8, None)]:
            self.assertEqual(bad(house, ((p(A), here, ("low", 0), (1, 2)), (q(A), there, ("low", 1), (2,)),
                                         (m(A), 0, ("low", 2), ()))), found)

    def test_the_first_wrong_entry(self):
        self.assertEqual(bad(GOOD, put(3, n(A), 1, ("low", 3), (9,)) + (None,)), 3)
        self.assertEqual(bad(GOOD, (PAPER[0], PAPER[1], None, None)), 0)
        self.assertEqual(bad(GOOD, (PAPER[0], PAPER[1], PAPER[2], None)), 1)
        self.assertEqual(bad(GOOD, (PAPER[0], PAPER[1], PAPER[2][:3] + ((2,),), PAPER[3])), 2)

    def test_words_need_not_be_declared(self):
        """An undeclared trait is no mark; the rules for it fit, as point 9 says."""
        house = alone(Rule(("no.t", "T"), ("no.u", ("no.a",))), Rule(("no.u", "T")), Rule(p("T"), ("no.t", "T")))
        paper = ((p(("no.b",)), 3, ("low", 2), (1,)), (("no.t", ("no.b",)), 2, ("low", 0), (2,)),
                 (("no.u", ("no.a",)), 1, ("low", 1), ()))
        self.assertIsNone(bad(house, paper))
        self.assertEqual(bad(house, paper[:2] + ((("no.u", ("no.a",)), 0, ("low", 1), ()),)), 2)
        self.assertEqual(bad(house, (paper[0], paper[1][:1] + (1,) + paper[1][2:], paper[2])), 1)

    def test_houses_that_are_not_let_by(self):
        """The rules of other packages count, whether they see each other or not."""
        one = Package("one", "low", rules=[Rule(p("T"))])
        other = Package("other", sorts=[("c", 0)], rules=[Rule(p("T"), q("T"))])
        house = House(Package("low", sorts=LOW_SORTS, traits=LOW_TRAITS), one, other)
        self.assertIsNone(bad(house, ((p(("other.c",)), 1, ("one", 0), ()),)))
        self.assertEqual(bad(house, ((p(("other.c",)), 1, ("other", 0), ()),)), 0)

    def test_deep_values(self):
        deep = nested(5000)
        for entry in ((deep, 0, ("low", 3), (2,)), (n(A), deep, ("low", 3), (2,)), (n(A), 0, deep, (2,)),
                      (n(A), 0, (deep, 3), (2,)), (n(A), 0, ("low", deep), (2,)), (n(A), 0, ("low", 3), deep),
                      (n(A), 0, ("low", 3), (deep,)), (n(deep), 0, ("low", 3), (2,)), deep, (deep,), (n(A), 0, deep, deep)):
            self.assertEqual(bad_deep(GOOD, p(f(A)), PAPER + (entry,)), 4)
        self.assertEqual(bad_deep(GOOD, p(f(A)), deep), 0)
        self.assertEqual(bad_deep(GOOD, p(f(A)), (deep,)), 0)
        self.assertEqual(bad_deep(GOOD, p(deep), PAPER), 0)
        self.assertEqual(bad_deep(GOOD, p(deep), PAPER + PAPER), 0)

    def test_changed_papers(self):
        source = random.Random(22)
        wrong = 0
        for _ in range(150):
            house = House(random_low(source), Package("high", "low", rules=random_low(source).rules))
            question = random_question(source)
            slow = Slow(house, question)
            if question not in slow.held:
                continue
            try:
                paper = slow.evidence()
            except (AssertionError, RecursionError):
                continue
            pool = [*PLAIN_VALUES, *paper, *[entry[0] for entry in paper], ("low", 0), ("high", 0), ("low", 1), 2]
            for _ in range(60):
                other = changed(source, paper, pool)
                if source.randrange(3) == 0:
                    other = changed(source, other, pool)
                wrong += bad(house, other, question) is not None
        self.assertGreater(wrong, 500)


if __name__ == "__main__":
    unittest.main()
