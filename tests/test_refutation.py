"""Refutations and their check: points 1, 2, 15."""

import random
import unittest

from helping import (A, B, LOW_SORTS, LOW_TRAITS, PLAIN_VALUES, Slow, SlowCheck, base, changed, f, g, listed, raised,
                     random_high, random_let_by, random_low, random_question, wrong_index)
from nevermet.errors import BadPaper
from nevermet.evidence import evidence
from nevermet.evidencecheck import check_evidence
from nevermet.houses import House
from nevermet.packages import Package
from nevermet.refutation import refutation
from nevermet.refutationcheck import check_refutation
from nevermet.rules import Rule, SoftRule


def alone(*rules):
    return House(Package("low", sorts=LOW_SORTS, traits=LOW_TRAITS, rules=rules))


def p(term):
    return ("low.p", term)


def q(term):
    return ("low.q", term)


def m(term):
    return ("low.m", term)


def n(term):
    return ("low.n", term)


def nested(deep, inner=A):
    for _ in range(deep):
        inner = f(inner)
    return inner


def bad(house, paper, question=None):
    """The index of the first wrong entry, or None; it is also what the plain reading of the document finds."""
    asked = paper[0][0] if question is None else question
    found = wrong_index(check_refutation, house, asked, paper)
    if found != SlowCheck(house, "no").wrong(asked, paper):
        raise AssertionError((found, paper))
    return found


class Refutation(unittest.TestCase):
    def test_example(self):
        far = House(base(), Package("far", "base", sorts=[("gem", 0)]))
        gem = ("far.gem",)
        self.assertEqual(refutation(far, ("base.show", listed(gem))),
                         ((("base.show", listed(gem)), 0, (("base", 1, 0, 1),)), (("base.show", gem), 0, ())))

    def test_what_holds(self):
        house = alone(Rule(p("T")), Rule(m("T"), m("T")))
        self.assertIsNone(refutation(house, p(A)))
        self.assertIsNone(refutation(house, m(A)))

    def test_no_rule_fits(self):
        house = alone(Rule(p(B)), Rule(m(B)))
        self.assertEqual(refutation(house, p(A)), ((p(A), 0, ()),))
        self.assertEqual(refutation(house, m(A)), ((m(A), 1, ()),))

    def test_the_first_condition_in_a_plain_entry(self):
        """The first refuted condition, also if it is a mark with a greater round than a later one."""
        house = alone(Rule(p(f(f("T"))), q(A), m(f(f("T"))), m("T"), q("T")), Rule(q(A)), Rule(m(f("T")), m("T")))
        self.assertEqual(refutation(house, p(f(f(B)))), (
            (p(f(f(B))), 0, (("low", 0, 1, 1),)), (m(f(f(B))), 3, (("low", 2, 0, 2),)), (m(f(B)), 2, (("low", 2, 0, 3),)),
            (m(B), 1, ())))

    def test_the_least_round_in_an_entry_of_a_mark(self):
        house = alone(Rule(m("T"), n(A), n(B), ("low.o", A, A), n("T")), Rule(n(A), n(B)),
                      Rule(("low.o", "T", "U"), ("low.o", "T", "U")))
        self.assertEqual(refutation(house, m(B)), ((m(B), 2, (("low", 0, 1, 1),)), (n(B), 1, ())))
        house = alone(Rule(m("T"), n(A), n("T"), n(B)), Rule(n(A), n(B)), Rule(n(f("T"))))
        self.assertEqual(refutation(house, m(A)), ((m(A), 2, (("low", 0, 2, 1),)), (n(B), 1, ())))
        self.assertEqual(refutation(house, m(f(A))), ((m(f(A)), 2, (("low", 0, 2, 1),)), (n(B), 1, ())))

    def test_rounds_of_marks(self):
        """One more than the greatest number over the rules that fit of the least round of their conditions."""
        house = alone(Rule(m("T"), n("T")), Rule(m(f("T")), m("T"), n(A)), Rule(n(f("T")), m("T")), Rule(n(A), m(B)))
        self.assertEqual(refutation(house, m(B)), ((m(B), 2, (("low", 0, 0, 1),)), (n(B), 1, ())))
        self.assertEqual(refutation(house, m(f(B))), (
            (m(f(B)), 4, (("low", 0, 0, 1), ("low", 1, 0, 2))), (n(f(B)), 3, (("low", 2, 0, 2),)),
            (m(B), 2, (("low", 0, 0, 3),)), (n(B), 1, ())))

    def test_rings_of_plain_traits(self):
        house = alone(Rule(p("T"), q("T")), Rule(q("T"), m("T"), p("T")), Rule(m("T")), SoftRule(p("T"), p("T")))
        self.assertEqual(refutation(house, p(A)), (
            (p(A), 0, (("low", 0, 0, 1), ("low", 3, 0, 0))), (q(A), 0, (("low", 1, 1, 0),))))

    def test_rings_of_marks_that_something_refutes(self):
        house = alone(Rule(m("T"), n("T")), Rule(n("T"), m("T"), ("low.o", "T", "T")))
        self.assertEqual(refutation(house, m(A)), (
            (m(A), 3, (("low", 0, 0, 1),)), (n(A), 2, (("low", 1, 1, 2),)), (("low.o", A, A), 1, ())))

    def test_the_rules_in_order(self):
        high = Package("early", "low", sorts=[("c", 0)], rules=[Rule(m(("early.c",)), n(A)), Rule(m(("early.c",)), n(B))])
        house = House(Package("low", sorts=LOW_SORTS, traits=LOW_TRAITS, rules=[Rule(m("T"), n("T"))]), high)
        found = refutation(house, m(("early.c",)))
        self.assertEqual(found[0], (m(("early.c",)), 2, (("early", 0, 0, 1), ("early", 1, 0, 2), ("low", 0, 0, 3))))
        self.assertEqual([entry[0] for entry in found], [m(("early.c",)), n(A), n(B), n(("early.c",))])

    def test_each_question_once(self):
        house = alone(Rule(p("T"), q("T")), Rule(p(f("T")), q("T"), q(f("T"))), SoftRule(p("T"), p(A), q("T")))
        self.assertEqual(refutation(house, p(f(A))), (
            (p(f(A)), 0, (("low", 0, 0, 1), ("low", 1, 0, 2), ("low", 2, 0, 3))), (q(f(A)), 0, ()), (q(A), 0, ()),
            (p(A), 0, (("low", 0, 0, 2), ("low", 2, 0, 3)))))

    def test_by(self):
        low = Package("low", sorts=LOW_SORTS, traits=LOW_TRAITS, rules=[Rule(p("T"), q("T"))])
        house = House(low, Package("high", "low", rules=[Rule(p("T"), m("T"))]))
        self.assertEqual(refutation(house, p(A), by="low"), ((p(A), 0, (("low", 0, 0, 1),)), (q(A), 0, ())))
        self.assertEqual(refutation(house, p(A), by="high"), (
            (p(A), 0, (("high", 0, 0, 1), ("low", 0, 0, 2))), (m(A), 1, ()), (q(A), 0, ())))
        house = House(low, Package("high", "low", rules=[Rule(p("T"))]))
        self.assertIsNone(refutation(house, p(A)))
        self.assertEqual(len(refutation(house, p(A), by="low")), 2)

    def test_random_houses(self):
        source = random.Random(31)
        count = 0
        for _ in range(500):
            if source.randrange(2):
                low = random_let_by(source)
                house = House(low, random_high(source, low))
            else:
                house = House(random_low(source))
            question = random_question(source)
            slow = Slow(house, question)
            found = refutation(house, question)
            if question in slow.held:
                self.assertIsNone(found)
            else:
                count += 1
                self.assertEqual(found, slow.no_paper())
                self.assertTrue(check_refutation(house, question, found))
                self.assertIsNotNone(wrong_index(check_evidence, house, question, found))
        self.assertGreater(count, 200)

    def test_large_terms(self):
        house = alone(Rule(p(g("T", "U")), m("T"), q("U")), Rule(m("T"), n("T")), Rule(n(f("T")), n(A)), Rule(q("T")))
        question = p(g(nested(5000), nested(4000, B)))
        found = refutation(house, question)
        self.assertEqual([entry[1:] for entry in found], [(0, (("low", 0, 0, 1),)), (3, (("low", 1, 0, 2),)),
                                                          (2, (("low", 2, 0, 3),)), (1, ())])
        self.assertTrue(check_refutation(house, question, found))
        other = found[:1] + ((m(nested(5001)),) + found[1][1:],) + found[2:]
        self.assertEqual(raised(BadPaper, check_refutation, house, question, other).index, 0)

    def test_long_refutations(self):
        house = alone(Rule(m(f("T")), m("T")))
        found = refutation(house, m(nested(299)))
        self.assertEqual([entry[1] for entry in found], list(range(300, 0, -1)))
        self.assertTrue(check_refutation(house, m(nested(299)), found))

    def test_arguments(self):
        house = alone()
        found = refutation(question=p(A), house=house, by="low")
        self.assertEqual(found, ((p(A), 0, ()),))
        self.assertRaises(TypeError, refutation, house, p(A), "low")
        self.assertTrue(check_refutation(thing=found, question=p(A), house=house))


GOOD = alone(Rule(p("T"), q("T"), m("T")), Rule(p(f("T")), m("T"), p("T")), Rule(m("T"), n("T"), n(B)), Rule(m(A), n(A)),
             Rule(n(A), n(B)), Rule(q(f("T"))))
PAPER = ((p(f(A)), 0, (("low", 0, 1, 1), ("low", 1, 0, 2))), (m(f(A)), 2, (("low", 2, 0, 3),)),
         (m(A), 3, (("low", 2, 1, 4), ("low", 3, 0, 5))), (n(f(A)), 1, ()), (n(B), 1, ()), (n(A), 2, (("low", 4, 0, 4),)))


def put(at, *entry):
    return PAPER[:at] + (entry,) + PAPER[at + 1:]


class Check(unittest.TestCase):
    def test_what_refutation_returns(self):
        self.assertEqual(refutation(GOOD, p(f(A))), PAPER)
        self.assertIsNone(bad(GOOD, PAPER))

    def test_another_order(self):
        paper = ((p(f(A)), 0, (("low", 0, 1, 5), ("low", 1, 0, 3))), (n(A), 2, (("low", 4, 0, 4),)), (n(f(A)), 1, ()),
                 (m(A), 3, (("low", 2, 1, 4), ("low", 3, 0, 1))), (n(B), 1, ()), (m(f(A)), 2, (("low", 2, 0, 2),)))
        self.assertIsNone(bad(GOOD, paper))

    def test_greater_rounds(self):
        self.assertIsNone(bad(GOOD, put(1, m(f(A)), 10 ** 40, (("low", 2, 0, 3),))))
        self.assertIsNone(bad(GOOD, put(3, n(f(A)), 1, ())))
        self.assertEqual(bad(GOOD, put(3, n(f(A)), 2, ())), 1)
        self.assertIsNone(bad(GOOD, PAPER[:1] + ((m(f(A)), 8, (("low", 2, 0, 3),)), PAPER[2], (n(f(A)), 7, ()))
                              + PAPER[4:]))

    def test_what_nothing_mentions(self):
        self.assertIsNone(bad(GOOD, PAPER + ((q(A), 0, ()), (q(B), 0, ()))))
        self.assertEqual(bad(GOOD, PAPER + ((q(A), 0, ()), (q(f(B)), 0, ()))), 7)

    def test_another_condition(self):
        self.assertIsNone(bad(GOOD, put(1, m(f(A)), 2, (("low", 2, 1, 4),))))
        self.assertIsNone(bad(GOOD, put(2, m(A), 3, (("low", 2, 0, 5), ("low", 3, 0, 5)))))
        self.assertIsNone(bad(GOOD, put(0, p(f(A)), 0, (("low", 0, 1, 1), ("low", 1, 1, 6)))
                              + ((p(A), 0, (("low", 0, 0, 7),)), (q(A), 0, ()))))

    def test_rings(self):
        ring = alone(Rule(p("T"), q("T")), Rule(q("T"), p("T")), Rule(m("T"), n("T")), Rule(n("T"), m("T")))
        self.assertIsNone(bad(ring, ((p(A), 0, (("low", 0, 0, 1),)), (q(A), 0, (("low", 1, 0, 0),)))))
        for here, there in [(1, 1), (1, 2), (2, 1), (1, 0), (9, 5)]:
            paper = ((m(A), here, (("low", 2, 0, 1),)), (n(A), there, (("low", 3, 0, 0),)))
            self.assertEqual(bad(ring, paper), 1 if here > there else 0)

    def test_kinds(self):
        for thing in PLAIN_VALUES:
            if not isinstance(thing, tuple) or not thing:
                self.assertEqual(wrong_index(check_refutation, GOOD, p(f(A)), thing), 0)
            for at, first in enumerate((0, 0, 0, 1, 2, 2)):
                self.assertEqual(bad(GOOD, PAPER[:at] + (thing,) + PAPER[at + 1:], p(f(A))), first)
            self.assertEqual(bad(GOOD, PAPER + (thing,)), 6)
        self.assertEqual(wrong_index(check_refutation, GOOD, p(f(A)), list(PAPER)), 0)
        self.assertEqual(bad(GOOD, PAPER + ([q(A), 0, ()],)), 6)
        self.assertEqual(bad(GOOD, PAPER + ((q(A), 0),)), 6)
        self.assertEqual(bad(GOOD, PAPER + ((q(A), 0, (), ()),)), 6)

    def test_the_entry_0_has_the_question(self):
        self.assertEqual(bad(GOOD, PAPER, p(A)), 0)
        self.assertEqual(bad(GOOD, PAPER[1:], p(f(A))), 0)
        self.assertIsNone(bad(GOOD, ((n(A), 2, (("low", 4, 0, 1),)), (n(B), 1, ()))))

    def test_questions(self):
        for thing in (("low.q",), ("low.q", "T"), ("low.q", g(A, "T")), ("low.q", A, A, A, A), ["low.q", A], ("q", A),
                      ("low.q", ["low.a"]), ("low.q", ()), None, A, ("low.q", "low.a"), ("low.q", ("low.f.x", A))):
            self.assertEqual(bad(GOOD, PAPER + ((thing, 0, ()),)), 6)
            self.assertEqual(bad(GOOD, put(3, thing, 1, ())), 1)

    def test_a_question_twice(self):
        for at in range(6):
            self.assertEqual(bad(GOOD, PAPER + PAPER[at:]), 6)
        self.assertEqual(bad(GOOD, PAPER + ((n(B), 2, ()),)), 6)

    def test_rounds(self):
        for thing in (1, -1, True, False, None, "0", 2):
            self.assertEqual(bad(GOOD, put(0, p(f(A)), thing, PAPER[0][2])), 0)
        for thing in (-1, 0, True, False, None, "2", 1):
            self.assertEqual(bad(GOOD, put(1, m(f(A)), thing, PAPER[1][2])), 1)
        for thing in (-1, True, False, None, "1", 2, 3):
            self.assertEqual(bad(GOOD, put(3, n(f(A)), thing, ())), 1)
        self.assertEqual(bad(GOOD, put(3, n(f(A)), 0, ())), 3)
        for thing in (-1, 0, True, False, None, "1"):
            self.assertEqual(bad(GOOD, PAPER + ((("low.n", f(f(A))), thing, ()),)), 6)
            self.assertEqual(bad(GOOD, PAPER + ((q(A), thing if thing != 0 or thing is False else 1, ()),)), 6)

    def test_rounds_of_what_is_mentioned(self):
        """Where no lesser round is wanted, the entry that mentions is right."""
        for entry in ((m(f(A)),), (m(f(A)), True), (m(f(A)), None, 1, 1), (m(f(A)), 0, (("low", 2, 0, 3),))):
            self.assertEqual(bad(GOOD, PAPER[:1] + (entry,) + PAPER[2:]), 1)
        for entry in ((n(f(A)),), (n(f(A)), True), (n(f(A)), False, ()), (n(f(A)), -1, ()), (n(f(A)), "0", ()),
                      (n(f(A)), 2, ())):
            self.assertEqual(bad(GOOD, PAPER[:3] + (entry,) + PAPER[4:]), 1)
        for entry in ((n(f(A)), 1), (n(f(A)), 1, None), (n(f(A)), 1, (), 4), (n(f(A)), 0, ())):
            self.assertEqual(bad(GOOD, PAPER[:3] + (entry,) + PAPER[4:]), 3)

    def test_reasons(self):
        one, other = PAPER[0][2]
        for thing in ((), (one,), (other, one), (one, other, other), (one, one), [one, other], None, 1, (one, None),
                      (one, list(other)), (one, other[:3]), (one, (*other, 0)), (one, ("high", 1, 0, 2)),
                      (one, ("low", 0, 0, 2)), (one, ("low", True, 0, 2)), (one, ("low", -5, 0, 2)),
                      (one, (None, 1, 0, 2)), (one, ("low", 1, False, 2)), (one, ("low", 1, 2, 2)),
                      (one, ("low", 1, -2, 2)), (one, ("low", 1, "0", 2)), (one, ("low", 1, 1, 2)),
                      (one, ("low", 1, 0, 3)), (one, ("low", 1, 0, -4)), (one, ("low", 1, 0, True)),
                      (one, ("low", 1, 0, None)), (one, ("low", 1, 0, 6)), (one, (["low"], 1, 0, 2)),
                      (one, ("low", "1", 0, 2)), ((), ()),
                      (("low", False, 1, 1), other)):
            self.assertEqual(bad(GOOD, put(0, p(f(A)), 0, thing)), 0)
        self.assertEqual(bad(GOOD, put(3, n(f(A)), 1, (("low", 4, 0, 4),))), 3)
        self.assertEqual(bad(GOOD, put(3, n(f(A)), 1, None)), 3)

    def test_three_places(self):
        more = [*LOW_TRAITS, ("w", 3, False, ()), ("x", 3, True, ())]
        house = House(Package("low", sorts=LOW_SORTS, traits=more,
                              rules=[Rule(("low.w", "T", f("U"), "T"), ("low.x", "U", "T", A))]))
        asked = ("low.w", B, f(A), B)
        paper = ((asked, 0, (("low", 0, 0, 1),)), (("low.x", A, B, A), 1, ()))
        self.assertEqual(refutation(house, asked), paper)
        self.assertIsNone(bad(house, paper))
        self.assertEqual(bad(house, paper + ((("low.x", A, A, "X"), 1, ()),)), 2)
        self.assertEqual(bad(house, paper + ((("low.w", B, f(A), A), 0, ()), (("low.w", B, f(A), B, B), 0, ()))), 3)

    def test_a_rule_without_conditions_that_fits(self):
        house = alone(Rule(p("T")), Rule(p("T"), q("T")))
        self.assertEqual(bad(house, ((p(A), 0, (("low", 0, 0, 1), ("low", 1, 0, 1))), (q(A), 0, ()))), 0)
        self.assertEqual(bad(house, ((p(A), 0, (("low", 1, 0, 1),)), (q(A), 0, ()))), 0)

    def test_words_need_not_be_declared(self):
        house = alone(Rule(("no.t", "T"), ("no.u", ("no.a",))))
        asked = ("no.t", ("no.b",))
        self.assertIsNone(bad(house, ((asked, 0, (("low", 0, 0, 1),)), (("no.u", ("no.a",)), 0, ()))))
        self.assertEqual(bad(house, ((asked, 0, ()),)), 0)
        self.assertEqual(bad(house, ((asked, 0, (("low", 0, 0, 1),)), (("no.u", ("no.a",)), 1, ()))), 1)

    def test_all_rules_of_the_house_count(self):
        house = House(Package("low", sorts=LOW_SORTS, traits=LOW_TRAITS), Package("one", "low", rules=[Rule(p("T"), q("T"))]),
                      Package("other", sorts=[("c", 0)], rules=[Rule(p("T"), m("T"))]))
        paper = ((p(A), 0, (("one", 0, 0, 1), ("other", 0, 0, 2))), (q(A), 0, ()), (m(A), 1, ()))
        self.assertIsNone(bad(house, paper))
        self.assertEqual(bad(house, ((p(A), 0, (("one", 0, 0, 1),)), (q(A), 0, ()))), 0)

    def test_deep_values(self):
        deep = nested(5000)
        # A term is built like a question, and its word need not be declared as a trait.
        self.assertTrue(check_refutation(GOOD, p(f(A)), PAPER + ((deep, 0, ()),)))
        for entry in ((deep, 1, ()), (q(A), deep, ()), (q(A), 0, deep), (q(A), 0, (deep,)), deep, (deep,),
                      (p(A), 0, ((deep, 0, 0, 6),)), (p(A), 0, (("low", deep, 0, 6),)), (p(A), 0, (("low", 0, deep, 6),)),
                      (p(A), 0, (("low", 0, 0, deep),)), (p(deep), 0, ())):
            self.assertEqual(raised(BadPaper, check_refutation, GOOD, p(f(A)), PAPER + (entry,)).index, 6)
        self.assertEqual(raised(BadPaper, check_refutation, GOOD, p(deep), PAPER).index, 0)
        self.assertEqual(raised(BadPaper, check_refutation, GOOD, p(A), deep).index, 0)

    def test_changed_papers(self):
        source = random.Random(32)
        wrong = 0
        for _ in range(150):
            house = House(random_low(source), Package("high", "low", rules=random_low(source).rules))
            question = random_question(source)
            paper = refutation(house, question)
            if paper is None:
                self.assertTrue(Slow(house, question).start in Slow(house, question).held)
                continue
            pool = [*PLAIN_VALUES, *paper, *[entry[0] for entry in paper], *paper[0][2], ("low", 0, 0, 0), 2]
            for _ in range(40):
                other = changed(source, paper, pool)
                if source.randrange(3) == 0:
                    other = changed(source, other, pool)
                wrong += bad(house, other, question) is not None
        self.assertGreater(wrong, 500)


class Both(unittest.TestCase):
    def test_just_one_of_them(self):
        """Each question has evidence or a refutation, and each check refuses the other paper."""
        source = random.Random(33)
        for _ in range(300):
            low = random_let_by(source)
            house = House(low, random_high(source, low))
            question = random_question(source, (A, B, ("high.c",)))
            no = refutation(house, question)
            if no is None:
                yes = evidence(house, question)
                self.assertTrue(check_evidence(house, question, yes))
                self.assertIsNotNone(wrong_index(check_refutation, house, question, yes))
            else:
                self.assertTrue(check_refutation(house, question, no))
                self.assertIsNotNone(wrong_index(check_evidence, house, question, no))


if __name__ == "__main__":
    unittest.main()
