"""Shut questions, questions that last as a no, lasting tables and their check: points 1, 2, 16, 17, 18."""

import random
import unittest

from helping import (A, B, INT, LOW_SORTS, LOW_TRAITS, PLAIN_VALUES, Slow, SlowCheck, base, changed, f, g, listed, raised,
                     random_low, random_question, slow_exposed, wrong_index)
from nevermet.asking import holds
from nevermet.errors import BadPaper
from nevermet.functions import Function
from nevermet.houses import House
from nevermet.packages import Package
from nevermet.refutation import refutation
from nevermet.refutationcheck import check_refutation
from nevermet.rules import Rule, SoftRule
from nevermet.shut import is_shut
from nevermet.tablecheck import check_table
from nevermet.tables import lasting_table, lasts, why_not


def alone(*rules, others=()):
    return House(Package("low", sorts=LOW_SORTS, traits=LOW_TRAITS, rules=rules), *others)


def p(term):
    return ("low.p", term)


def q(term):
    return ("low.q", term)


def m(term):
    return ("low.m", term)


def n(term):
    return ("low.n", term)


def o(one, other):
    return ("low.o", one, other)


def r(one, other):
    return ("low.r", one, other)


def nested(deep, inner=A):
    for _ in range(deep):
        inner = f(inner)
    return inner


def table(house, question, name="low"):
    """The table, if there is one; the three functions and the check agree about it."""
    found = lasting_table(house, name, question)
    reason = why_not(house, name, question)
    assert lasts(house, name, question) is (found is not None) and (found is None) == (reason is not None)
    if found is not None:
        assert check_table(house, name, question, found) is True
    return found


def reason(house, question, name="low"):
    assert table(house, question, name) is None
    return why_not(house, name, question)


def bad(house, paper, question=None, name="low"):
    """The index of the first wrong entry, or None; it is also what the plain reading of the document finds."""
    asked = paper[0][0] if question is None else question
    found = wrong_index(check_table, house, name, asked, paper)
    if found != SlowCheck(house, "table", name).wrong(asked, paper):
        raise AssertionError((found, paper))
    return found


GEM = ("far.gem",)
FAR = House(base(), Package("far", "base", sorts=[("gem", 0), ("box", 1)]))


class Shut(unittest.TestCase):
    def shut(self, question, house=FAR, name="far"):
        found = is_shut(house, name, question)
        self.assertIsInstance(found, bool)
        return found

    def test_example(self):
        self.assertEqual([is_shut(FAR, "far", ("base.show", GEM)), is_shut(FAR, "far", ("base.show", listed(GEM)))],
                         [True, False])

    def test_own_traits(self):
        self.assertIs(self.shut(("base.show", INT), name="base"), True)
        self.assertIs(self.shut(("base.show", listed(GEM)), name="base"), True)
        self.assertIs(self.shut(m(A), alone(), "low"), True)

    def test_own_heads(self):
        house = alone(others=[Package("high", "low", sorts=[("c", 0), ("d", 1)])])
        c, d = ("high.c",), ("high.d", "T")
        self.assertIs(self.shut(r(c, A), house, "high"), True)
        self.assertIs(self.shut(r(A, c), house, "high"), True)
        self.assertIs(self.shut(r(A, d), house, "high"), True)
        self.assertIs(self.shut(r(A, B), house, "high"), False)
        self.assertIs(self.shut(r(f(c), g(A, c)), house, "high"), False)
        self.assertIs(self.shut(r(c, c), house, "low"), True)

    def test_bare_places(self):
        house = alone(others=[Package("high", "low", sorts=[("c", 0)])])
        for question in (r("T", ("high.c",)), r(("high.c",), "T"), r("T", "U"), p("T")):
            self.assertIs(self.shut(question, house, "high"), False)
            self.assertIs(self.shut(question, house, "low"), False)

    def test_variables_within(self):
        self.assertIs(self.shut(("base.show", ("far.box", "T"))), True)
        self.assertIs(self.shut(("base.show", listed("T")), name="base"), True)
        self.assertIs(self.shut(("base.show", listed("T"))), False)

    def test_names_that_begin_with_one_another(self):
        house = House(base(), Package("far", "base", sorts=[("gem", 0)]), Package("farm", "base", sorts=[("gem", 0)]))
        self.assertIs(self.shut(("base.show", ("farm.gem",)), house, "far"), False)
        self.assertIs(self.shut(("base.show", ("far.gem",)), house, "farm"), False)
        self.assertIs(self.shut(("base.show", ("farm.gem",)), house, "farm"), True)

    def test_words_that_nobody_declares(self):
        self.assertIs(self.shut(("base.show", ("far.gems",))), False)
        self.assertIs(self.shut(("far.show", INT)), False)

    def test_what_a_package_owns(self):
        house = House(base(), Package("far", "base", traits=[("t", 1, True, ())], functions=[Function("do")]))
        for word in ("far.t", "far.do"):
            self.assertIs(self.shut(("base.show", (word,)), house), True)
            self.assertIs(self.shut((word, INT), house), True)

    def test_arguments(self):
        self.assertIs(is_shut(question=("base.show", GEM), house=FAR, name="far"), True)


class Tables(unittest.TestCase):
    def test_example(self):
        self.assertEqual([lasting_table(FAR, "far", ("base.show", GEM)), why_not(FAR, "far", ("base.show", listed(GEM)))],
                         [((("base.show", GEM), 0, ()),), ("exposed", ("base.show", listed(GEM)))])

    def test_no_rule_fits(self):
        self.assertEqual(table(alone(), p(A)), ((p(A), 0, ()),))
        self.assertEqual(table(alone(), m(A)), ((m(A), 1, ()),))
        self.assertEqual(table(alone(), r(f("X"), g("Y", "X"))), ((r(f("V0"), g("V1", "V0")), 0, ()),))

    def test_rules_that_fit(self):
        house = alone(Rule(p("T"), q("T"), m("T")), Rule(q(f("T"))), SoftRule(p(f("T")), m("T")), Rule(m(B)))
        self.assertEqual(table(house, p(A)), ((p(A), 0, (("low", 0, 0, 1),)), (q(A), 0, ())))
        self.assertEqual(table(house, p(f(A))), ((p(f(A)), 0, (("low", 0, 1, 1), ("low", 2, 0, 2))), (m(f(A)), 1, ()),
                                                 (m(A), 1, ())))
        self.assertEqual(reason(house, p(f(B))), ("holds", p(f(B))))
        self.assertEqual(reason(house, q(f("T"))), ("holds", q(f("V0"))))

    def test_rings_of_plain_traits(self):
        house = alone(Rule(p("T"), q("T")), Rule(q("T"), p("T")))
        self.assertEqual(table(house, p(f("T"))), ((p(f("V0")), 0, (("low", 0, 0, 1),)), (q(f("V0")), 0, (("low", 1, 0, 0),))))

    def test_rings_of_marks(self):
        house = alone(Rule(m("T"), n("T")), Rule(n("T"), m("T")), Rule(p("T"), m("T")))
        self.assertEqual(reason(house, m(A)), ("holds", m(A)))
        self.assertEqual(reason(house, p(A)), ("holds", p(A)))
        house = alone(Rule(m("T"), n("T")), Rule(n("T"), m("T"), o("T", "T")))
        self.assertEqual(table(house, m(A)), ((m(A), 3, (("low", 0, 0, 1),)), (n(A), 2, (("low", 1, 1, 2),)),
                                              (o(A, A), 1, ())))

    def test_the_first_condition_in_a_plain_entry(self):
        house = alone(Rule(p(f("T")), p(B), m(f("T")), m(A), q(f("T"))), Rule(m(f("T")), m("T")), Rule(p(B)))
        self.assertEqual(table(house, p(f(A))), ((p(f(A)), 0, (("low", 0, 1, 1),)), (m(f(A)), 2, (("low", 1, 0, 2),)),
                                                 (m(A), 1, ())))

    def test_the_least_round_in_an_entry_of_a_mark(self):
        house = alone(Rule(n("T"), o("T", "T"), m("T"), m(A), m(B)), Rule(m(f("T")), m("T")),
                      Rule(o("T", "U"), o("T", "U")))
        self.assertEqual(table(house, n(f(A))), ((n(f(A)), 2, (("low", 0, 2, 1),)), (m(A), 1, ())))
        self.assertEqual(table(house, n(A)), ((n(A), 2, (("low", 0, 1, 1),)), (m(A), 1, ())))

    def test_variables_are_not_fixed(self):
        """A rule that fits some of what the question may become meets it, so the question is exposed."""
        house = alone(Rule(p(f(A)), q(A)), Rule(q(f("T")), p("T")))
        self.assertEqual(reason(house, p(f("T"))), ("meets", p(f("V0")), ("low", 0)))
        self.assertEqual(table(house, p(f(B))), ((p(f(B)), 0, ()),))
        self.assertEqual(table(house, p(f(f("T")))), ((p(f(f("V0"))), 0, ()),))
        self.assertEqual(table(house, p(g("T", "T"))), ((p(g("V0", "V0")), 0, ()),))

    def test_variables_of_the_rule_are_others(self):
        house = alone(Rule(p(g("V0", f("V0")))), Rule(q(g("T", "T"))), Rule(q(g("A", f("B")))))
        self.assertEqual(reason(house, p(g("T", f("U")))), ("meets", p(g("V0", f("V1"))), ("low", 0)))
        self.assertEqual(table(house, p(g(f("T"), "T"))), ((p(g(f("V0"), "V0")), 0, ()),))
        self.assertEqual(reason(house, p(g("T", "U"))), ("meets", p(g("V0", "V1")), ("low", 0)))
        self.assertEqual(reason(house, q(g("T", A))), ("meets", q(g("V0", A)), ("low", 1)))
        self.assertEqual(reason(house, q(g(A, "T"))), ("meets", q(g(A, "V0")), ("low", 1)))
        self.assertEqual(reason(house, q(g(A, f("T")))), ("holds", q(g(A, f("V0")))))
        self.assertEqual(reason(house, q(g(f("T"), f("U")))), ("meets", q(g(f("V0"), f("V1"))), ("low", 1)))
        self.assertEqual(table(house, q(g("T", g(A, "T")))), ((q(g("V0", g(A, "V0"))), 0, ()),))

    def test_conditions_of_questions_with_variables(self):
        """Filled conditions are renamed, so two of them may be the same question."""
        house = alone(Rule(p(g("T", "U")), q("T"), q("U")), Rule(q(f("T")), p("T"), p(A)), Rule(q(g("T", "U")), p("T"), p("U")))
        self.assertEqual(table(house, p(g(f("X"), f("Y")))), (
            (p(g(f("V0"), f("V1"))), 0, (("low", 0, 0, 1),)), (q(f("V0")), 0, (("low", 1, 1, 2),)), (p(A), 0, ())))
        house = alone(Rule(p(g("T", "U")), q("U"), q("T")), Rule(q(f("T")), m("T")), Rule(m("T")))
        self.assertEqual(reason(house, p(g(f(f("X")), f(f("Y"))))), ("holds", p(g(f(f("V0")), f(f("V1"))))))

    def test_conditions_with_one_renamed_form_are_one_question(self):
        house = alone(Rule(p(g("T", "U")), q("T")), SoftRule(p(g("T", "U")), q("U")), Rule(q(f("T")), r(f("T"), f("T"))))
        self.assertEqual(table(house, p(g(f("X1"), f("X2")))), (
            (p(g(f("V0"), f("V1"))), 0, (("low", 0, 0, 1), ("low", 1, 0, 1))), (q(f("V0")), 0, (("low", 2, 0, 2),)),
            (r(f("V0"), f("V0")), 0, ())))
        self.assertEqual(table(alone(), r(f("X1"), f("X2"))), ((r(f("V0"), f("V1")), 0, ()),))
        self.assertEqual(table(alone(), r(f("X1"), f("X1"))), ((r(f("V0"), f("V0")), 0, ()),))
        # The first one; then p of 49 to 0 signs f, and q of 49 to 1: together 100.
        house = alone(Rule(p(g("T", "U")), p("T"), p("U")), Rule(p(f("T")), p("T")), Rule(p(f("T")), q(f("T"))))
        self.assertEqual(reason(house, p(g(nested(49, "X1"), nested(49, "X2")))), ("exposed", p("V0")))
        self.assertEqual(reason(house, p(g(nested(50, "X1"), nested(50, "X2")))), ("many",))

    def test_a_bare_condition_is_exposed(self):
        house = alone(Rule(p(f("T")), q("T")))
        self.assertEqual(reason(house, p(f("X"))), ("exposed", q("V0")))
        self.assertEqual(reason(house, p("X")), ("exposed", p("V0")))

    def test_the_first_exposed_one(self):
        house = alone(Rule(p(f("T")), q(f("T")), m("T"), n(f("T"))), Rule(q(f("T")), n("T")), Rule(n(f(A))), Rule(q(f("T"))))
        # In the order of first mention: p, then q, m, n(f), then n.
        self.assertEqual(reason(house, p(f("X"))), ("exposed", m("V0")))
        house = alone(Rule(p(f("T")), q(f("T")), n(f("T")), m("T")), Rule(n(f(A))), Rule(n(f(B))), Rule(q(f("T"))))
        self.assertEqual(reason(house, p(f("X"))), ("meets", n(f("V0")), ("low", 1)))

    def test_not_shut_goes_first(self):
        far = House(base(), Package("far", "base", sorts=[("gem", 0)]))
        self.assertEqual(reason(far, ("base.show", listed("T")), "far"), ("exposed", ("base.show", listed("V0"))))
        house = alone(others=[Package("high", "low", sorts=[("c", 1)], rules=[Rule(p(("high.c", A))), Rule(p("T"))])])
        self.assertEqual(reason(house, p(f("T")), "high"), ("exposed", p(f("V0"))))
        self.assertEqual(reason(house, p(("high.c", "T")), "high"), ("meets", p(("high.c", "V0")), ("high", 0)))

    def test_the_first_rule_that_meets(self):
        house = alone(Rule(p(f("T")), q(A)), Rule(p(A)), Rule(p(f(B))), Rule(p(f(A))), Rule(q(f(f(A)))))
        self.assertEqual(reason(house, p(f("X"))), ("meets", p(f("V0")), ("low", 2)))

    def test_exposed_questions_lead_no_further(self):
        house = alone(Rule(p(f("T")), q("T")), Rule(q("T"), m("T"), n("T")), Rule(q(A)))
        self.assertEqual(reason(house, p(f("X"))), ("exposed", q("V0")))
        self.assertEqual(Slow(house, p(f("X")), exposed=slow_exposed(house, "low")).order, [p(f("V0")), q("V0")])

    def test_an_exposed_condition_beside_one_that_lasts(self):
        house = alone(Rule(p(f("T")), q("T"), m(f("T"))))
        self.assertEqual(table(house, p(f("X"))), ((p(f("V0")), 0, (("low", 0, 1, 1),)), (m(f("V0")), 1, ())))
        house = alone(Rule(m(f("T")), n("T"), o(f("T"), A)))
        self.assertEqual(table(house, m(f("X"))), ((m(f("V0")), 2, (("low", 0, 1, 1),)), (o(f("V0"), A), 1, ())))

    def test_only_the_view_counts(self):
        rules = [Rule(p(f("T"))), Rule(p(f(A))), Rule(m(A))]
        house = alone(Rule(p(A), m(A)), others=[Package("high", "low", rules=rules), Package("far", "low", rules=rules)])
        for question in (p(f("T")), p(f(A)), m(A), p(A)):
            self.assertIsNotNone(table(house, question))
            self.assertTrue(holds(house, question) if question in (p(f(A)), m(A), p(A)) else True)
        own = Package("own", "low", sorts=[("c", 0)])
        house = alone(others=[own, Package("high", "low", "own", rules=[Rule(p(("own.c",)))])])
        self.assertIsNotNone(table(house, p(("own.c",)), "own"))
        self.assertEqual(reason(house, p(("own.c",)), "high"), ("exposed", p(("own.c",))))

    def test_words_of_others_in_the_view(self):
        own = Package("own", "low", sorts=[("c", 1)], rules=[Rule(p(("own.c", "T")), m(("own.c", "T")), q("T"))])
        house = alone(Rule(q(A)), others=[own])
        self.assertEqual(table(house, p(("own.c", A)), "own"), (
            (p(("own.c", A)), 0, (("own", 0, 0, 1),)), (m(("own.c", A)), 1, ())))
        self.assertEqual(reason(house, q(A), "own"), ("exposed", q(A)))
        house = alone(Rule(q(A)), Rule(m("T")), others=[own])
        self.assertEqual(reason(house, p(("own.c", A)), "own"), ("exposed", q(A)))

    def test_just_100_questions(self):
        house = alone(Rule(p(f("T")), p("T")), Rule(m(f("T")), m("T")))
        found = table(house, p(nested(99)))
        self.assertEqual([entry[0] for entry in found], [p(nested(99 - k)) for k in range(100)])
        self.assertEqual([entry[1] for entry in table(house, m(nested(99)))], list(range(100, 0, -1)))
        self.assertEqual(reason(house, p(nested(100))), ("many",))
        self.assertEqual(reason(house, m(nested(100))), ("many",))

    def test_too_many_goes_first(self):
        """Also where a question among the 101 is exposed, or the question would last without the others."""
        house = alone(Rule(p(f("T")), q("T"), p("T")))
        self.assertEqual(reason(house, p(nested(60))), ("many",))
        self.assertEqual(reason(house, p(nested(99, "X"))), ("many",))
        self.assertEqual(reason(house, p(nested(51, "X"))), ("many",))
        self.assertEqual(reason(alone(Rule(p(f("T")), p("T"))), p(nested(99, "X"))), ("exposed", p("V0")))
        self.assertEqual(reason(alone(Rule(p(f("T")), p("T"))), p(nested(100, "X"))), ("many",))
        self.assertIsNotNone(table(house, p(nested(49, A))))

    def test_large_terms(self):
        house = alone(Rule(p(g("T", "U")), m("T"), q("U")), Rule(m(f("T")), n(A)), Rule(q("T")))
        question = p(g(nested(5000, "X"), nested(4000, "Y")))
        found = lasting_table(house, "low", question)
        self.assertEqual([entry[1:] for entry in found], [(0, (("low", 0, 0, 1),)), (2, (("low", 1, 0, 2),)), (1, ())])
        self.assertEqual([found[1][0][1][0], found[2][0]], ["low.f", n(A)])
        self.assertIs(check_table(house, "low", question, found), True)
        self.assertIs(lasts(house, "low", question), True)
        self.assertIsNone(why_not(house, "low", question))
        self.assertEqual(raised(BadPaper, check_table, house, "low", question, ((question, 0, ()),)).index, 0)
        self.assertEqual(why_not(house, "low", q(nested(5000, "X")))[0], "holds")
        house = alone(Rule(p(g("T", "T"))))
        self.assertEqual(why_not(house, "low", p(g(nested(3000, "X"), nested(3000, "Y"))))[0], "meets")
        self.assertIsNone(why_not(house, "low", p(g(nested(3000, "X"), nested(3001, "X")))))
        self.assertIsNone(why_not(house, "low", p(g(nested(3000, A), nested(3000, B)))))
        self.assertEqual(why_not(house, "low", p(g(nested(3000, A), nested(3000, A))))[0], "holds")

    def test_packages_that_are_not_let_by(self):
        """Two rules that are not ordered, one out of place, and a word that nobody declares."""
        other = Package("other", "low", sorts=[("c", 0)], rules=[Rule(p("T"), ("no.t", "T"))])
        house = alone(Rule(p(A)), Rule(p("T"), q("T")), others=[other])
        self.assertEqual(reason(house, p(A), "low"), ("holds", p(A)))
        self.assertEqual(table(house, p(B), "low"), ((p(B), 0, (("low", 1, 0, 1),)), (q(B), 0, ())))
        self.assertEqual(reason(house, p(A), "other"), ("exposed", p(A)))

    def test_other_numbers_of_places_and_parts(self):
        """Rules whose heads name a word with another number of places or parts neither fit nor meet a question."""
        house = alone(Rule(p(("low.f",))), Rule(p(("low.f", "T", A))), Rule(("low.p", f("T"), A)), Rule(("low.r", f("T"))),
                      Rule(("low.r", f("T"), "T", A)))
        for question in (p(f("V0")), p(f(A)), r(f("V0"), f("V0"))):
            self.assertEqual(table(house, question), ((question, 0, ()),))
            self.assertIsNone(bad(house, ((question, 0, ()),)))

    def test_three_places(self):
        more = [*LOW_TRAITS, ("w", 3, False, ()), ("x", 3, True, ())]
        house = House(Package("low", sorts=LOW_SORTS, traits=more,
                              rules=[Rule(("low.w", f("T"), f("U"), f("T")), ("low.x", f("U"), f("T"), A)),
                                     Rule(("low.x", "T", "T", A), ("low.x", "T", A, "T"))]))
        self.assertEqual(reason(house, ("low.w", f("X"), f("Y"), f("X"))),
                         ("meets", ("low.x", f("V0"), f("V1"), A), ("low", 1)))
        self.assertEqual(reason(house, ("low.w", f("X"), f("Y"), f("Z"))),
                         ("meets", ("low.w", f("V0"), f("V1"), f("V2")), ("low", 0)))
        self.assertEqual(table(house, ("low.w", f("Y"), f(f("Y")), f("Y"))), (
            (("low.w", f("V0"), f(f("V0")), f("V0")), 0, (("low", 0, 0, 1),)),
            (("low.x", f(f("V0")), f("V0"), A), 1, ())))

    def test_a_lasting_no_is_a_no(self):
        source = random.Random(51)
        count = 0
        for _ in range(300):
            low = random_low(source)
            house = House(low, Package("high", "low", sorts=[("c", 0)]))
            question = random_question(source)
            found = table(house, question)
            if found is not None:
                count += 1
                self.assertFalse(holds(house, question, by="low"))
                self.assertIsNotNone(refutation(house, question, by="low"))
                self.assertTrue(check_refutation(House(low), question, found))
        self.assertGreater(count, 100)

    def test_random_houses(self):
        source = random.Random(52)
        many = {}
        for _ in range(1500):
            own = Package("own", "low", sorts=[("c", 1)], rules=[rule for rule in random_low(source).rules][:3])
            house = House(random_low(source), own)
            name, places, _, _ = source.choice(LOW_TRAITS)
            view = source.choice(["low", "own"])
            question = ("low." + name,) + tuple(self.random_place(source, view == "own") for _ in range(places))
            slow = Slow(house, question, house.view(view), slow_exposed(house, view))
            if slow.start in slow.held:
                reasons = [slow.reasons[one] for one in slow.order if slow.reasons[one]]
                found = reason(house, question, view)
                self.assertEqual(found, reasons[0] if reasons else ("holds", slow.start))
            else:
                found = ("lasts", table(house, question, view))
                self.assertEqual(found[1], slow.no_paper())
            many[found[0]] = many.get(found[0], 0) + 1
        self.assertGreater(min(many.values()), 20, many)
        self.assertEqual(sorted(many), ["exposed", "holds", "lasts", "meets"])

    def random_place(self, source, own, deep=3):
        kind = source.randrange(7) if deep else source.randrange(3)
        if kind < 3:
            return [A, B, source.choice("XY")][kind] if deep < 3 or kind < 2 else f("X")
        if kind == 3:
            return g(self.random_place(source, own, deep - 1), self.random_place(source, own, deep - 1))
        return ("own.c" if own and kind == 4 else "low.f", self.random_place(source, own, deep - 1))

    def test_arguments(self):
        house = alone()
        self.assertIs(lasts(question=p(A), name="low", house=house), True)
        self.assertEqual(lasting_table(question=p(A), name="low", house=house), ((p(A), 0, ()),))
        self.assertIsNone(why_not(question=p(A), name="low", house=house))
        self.assertIs(check_table(thing=((p(A), 0, ()),), question=p(A), name="low", house=house), True)


GOOD = alone(Rule(p(f("T")), q(A), m(f("T"))), SoftRule(p("T"), n("T"), m("T")), Rule(m(f("T")), n(f("T")), n(B)),
             Rule(m("T"), o("T", A)), Rule(o(f("T"), A), n(B)), Rule(q(A)), Rule(r(f("T"), f("T"))), Rule(r(A, "T")),
             others=[Package("high", "low", sorts=[("c", 1)], rules=[Rule(n("T"))])])
X, Y = "V0", "V1"
PAPER = ((p(f(X)), 0, (("low", 0, 1, 1), ("low", 1, 0, 2))), (m(f(X)), 3, (("low", 2, 0, 2), ("low", 3, 0, 3))),
         (n(f(X)), 1, ()), (o(f(X), A), 2, (("low", 4, 0, 4),)), (n(B), 1, ()))


def put(at, *entry):
    return PAPER[:at] + (entry,) + PAPER[at + 1:]


class Check(unittest.TestCase):
    def test_what_lasting_table_returns(self):
        self.assertEqual(lasting_table(GOOD, "low", p(f("T"))), PAPER)
        self.assertIsNone(bad(GOOD, PAPER))
        self.assertIsNone(bad(GOOD, PAPER, p(f("Z9"))))

    def test_another_order(self):
        self.assertIsNone(bad(GOOD, (
            (p(f(X)), 0, (("low", 0, 1, 4), ("low", 1, 0, 3))), (n(B), 1, ()), (o(f(X), A), 2, (("low", 4, 0, 1),)),
            (n(f(X)), 1, ()), (m(f(X)), 3, (("low", 2, 0, 3), ("low", 3, 0, 2))))))

    def test_another_condition(self):
        self.assertIsNone(bad(GOOD, put(1, m(f(X)), 3, (("low", 2, 1, 4), ("low", 3, 0, 3)))))
        self.assertIsNone(bad(GOOD, put(0, p(f(X)), 0, (("low", 0, 1, 1), ("low", 1, 1, 1)))))

    def test_two_tables_put_together(self):
        one, other = lasting_table(GOOD, "low", r(f("T"), g("U", "T"))), lasting_table(GOOD, "low", m(f(B)))
        shifted = tuple((question, count, tuple((*reason[:3], reason[3] + len(one)) for reason in reasons))
                        for question, count, reasons in other)
        self.assertIsNone(bad(GOOD, one + shifted))
        self.assertEqual(bad(GOOD, one + other), 1)
        self.assertIsNone(bad(GOOD, other + one))
        self.assertEqual(bad(GOOD, one + one), 1)

    def test_what_nothing_mentions(self):
        self.assertIsNone(bad(GOOD, PAPER + ((q(B), 0, ()), (q(g(X, X)), 0, ()), (n(g(X, Y)), 1, ()))))
        self.assertEqual(bad(GOOD, PAPER + ((q(B), 0, ()), (q(A), 0, ()))), 6)

    def test_greater_rounds(self):
        self.assertIsNone(bad(GOOD, put(1, m(f(X)), 10 ** 50, PAPER[1][2])))
        self.assertIsNone(bad(GOOD, put(2, n(f(X)), 2, ())))
        self.assertEqual(bad(GOOD, put(2, n(f(X)), 3, ())), 1)
        self.assertEqual(bad(GOOD, put(3, o(f(X), A), 3, PAPER[3][2])), 1)
        self.assertEqual(bad(GOOD, put(4, n(B), 2, ())), 3)

    def test_long_tables(self):
        house = alone(Rule(p(f("T")), p("T")))
        paper = tuple((p(nested(150 - k)), 0, (("low", 0, 0, k + 1),)) for k in range(150)) + ((p(A), 0, ()),)
        self.assertIsNone(bad(house, paper))
        self.assertIsNone(lasting_table(house, "low", p(nested(150))))
        self.assertEqual(bad(house, paper[:120] + ((p(nested(30)), 0, (("low", 0, 0, 120),)),) + paper[121:]), 120)
        self.assertEqual(bad(house, paper[:150] + ((p(A), 1, ()),)), 150)
        self.assertEqual(bad(house, paper + (None,)), 151)

    def test_kinds(self):
        for thing in PLAIN_VALUES:
            if not isinstance(thing, tuple) or not thing:
                self.assertEqual(wrong_index(check_table, GOOD, "low", p(f("T")), thing), 0)
            for at, first in enumerate((0, 0, 0, 1, 3)):
                self.assertEqual(bad(GOOD, PAPER[:at] + (thing,) + PAPER[at + 1:], p(f("T"))), first)
            self.assertEqual(bad(GOOD, PAPER + (thing,)), 5)
        self.assertEqual(wrong_index(check_table, GOOD, "low", p(f("T")), list(PAPER)), 0)
        for entry in ([q(B), 0, ()], (q(B), 0), (q(B), 0, (), ()), (q(B), 0, []), (q(B), 0, None)):
            self.assertEqual(bad(GOOD, PAPER + (entry,)), 5)

    def test_the_entry_0_has_the_question(self):
        self.assertEqual(bad(GOOD, PAPER, p(f(f("T")))), 0)
        self.assertEqual(bad(GOOD, PAPER, p(f(A))), 0)
        self.assertEqual(bad(GOOD, PAPER[1:], p(f("T"))), 0)
        self.assertIsNone(bad(GOOD, ((n(f(X)), 1, ()),), n(f("B"))))
        self.assertEqual(bad(GOOD, ((n(f("B")), 1, ()),), n(f("B"))), 0)

    def test_renamed_forms(self):
        for question in (q(g("T", "U")), q(g("V1", "V0")), q(g("V0", "V2")), q(f("V1")), q(f("V00")), q(g("V0", "v1"))):
            self.assertEqual(bad(GOOD, PAPER + ((question, 0, ()),)), 5)
        self.assertIsNone(bad(GOOD, PAPER + ((q(g("V0", "V1")), 0, ()),)))
        for question in (m(f("V1")), m(f("T"))):
            self.assertEqual(bad(GOOD, put(1, question, 3, PAPER[1][2])), 0)

    def test_a_question_twice(self):
        for at in range(5):
            self.assertEqual(bad(GOOD, PAPER + PAPER[at:]), 5)
        self.assertEqual(bad(GOOD, PAPER + ((n(B), 2, ()),)), 5)

    def test_words(self):
        own = Package("own", "low", sorts=[("c", 1)], traits=[("t", 1, False, ()), ("k", 1, True, ())],
                      functions=[Function("do", "T")])
        house = alone(others=[own, Package("far", "low", sorts=[("d", 0)])])
        c = ("own.c", X)
        for question, count in [(p(c), 0), (m(c), 1), (("own.t", A), 0), (("own.k", f(A)), 1), (("own.t", f(g(A, c))), 0)]:
            self.assertIsNone(bad(house, ((question, count, ()),), name="own"))
            self.assertEqual(bad(house, ((question, 1 - count, ()),), name="own"), 0)
        for question in (p(("own.c",)), p(("own.c", A, A)), p(("own.t", A)), p(("own.k", A)), p(("own.do", A)),
                         ("own.t", A, A), ("own.t", ("low.f",)), ("own.t", ("low.a", A)), ("own.t", ("low.p", A)),
                         ("own.c", A), ("own.do", A), ("own.u", A), ("own.t", ("own.d",)), ("own.t", ("far.d",)),
                         ("own.t", f(g(A, ("far.d",)))), ("own.t", ("no.no",)), ("own.t", f(("low.z",))),
                         ("own.c", ("own.c", A)), p(("own.c", ("low.q", A)))):
            for count in (0, 1):
                self.assertEqual(bad(house, ((question, count, ()),), name="own"), 0)
        self.assertEqual(bad(house, ((p(("far.d",)), 0, ()),), name="far"), None)
        self.assertEqual(bad(house, ((p(("far.d",)), 0, ()),), name="low"), 0)

    def test_not_shut(self):
        house = alone(others=[Package("own", "low", sorts=[("c", 0)])])
        c = ("own.c",)
        for question, found in [(r(c, A), None), (r(A, c), None), (r(A, A), 0), (r(A, f(c)), 0), (r(c, "V0"), 0),
                                (r("V0", c), 0)]:
            self.assertEqual(bad(house, ((question, 0, ()),), name="own"), found)
        self.assertEqual(bad(house, ((p(X), 0, ()),)), 0)

    def test_met_by_a_rule_that_does_not_fit(self):
        for question in (r(B, A), r(f(X), g(X, X)), r(f(X), f(f(X))), r(g(X, Y), f(X))):
            self.assertIsNone(bad(GOOD, PAPER + ((question, 0, ()),)))
        for question in (r(f(X), f(Y)), r(f(X), f(f(Y))), r(f(A), f(X))):
            self.assertEqual(bad(GOOD, PAPER + ((question, 0, ()),)), 5)
        self.assertIsNone(bad(GOOD, ((o(f(X), f(Y)), 1, ()),)))

    def test_rules_outside_the_view(self):
        """The package `high` has a rule that fits, and it counts in its own view alone."""
        self.assertIsNone(bad(GOOD, ((n(B), 1, ()),)))
        c = ("high.c", X)
        self.assertEqual(bad(GOOD, ((n(c), 1, ()),), name="high"), 0)
        self.assertEqual(bad(GOOD, ((n(c), 2, (("high", 0, 0, 0),)),), name="high"), 0)
        self.assertIsNone(bad(GOOD, ((m(c), 2, (("low", 3, 0, 1),)), (o(c, A), 1, ())), name="high"))

    def test_rounds(self):
        for thing in (1, -1, True, False, None, "0", 2):
            self.assertEqual(bad(GOOD, put(0, PAPER[0][0], thing, PAPER[0][2])), 0)
        for thing in (-1, 0, True, False, None, "2", 2, 1):
            self.assertEqual(bad(GOOD, put(1, PAPER[1][0], thing, PAPER[1][2])), 1)
        for thing in (-1, True, False, None, "1", 3, 4):
            self.assertEqual(bad(GOOD, put(2, n(f(X)), thing, ())), 1)
        self.assertEqual(bad(GOOD, put(2, n(f(X)), 0, ())), 2)

    def test_rounds_of_what_is_mentioned(self):
        for entry in ((m(f(X)),), (m(f(X)), True), (m(f(X)), None, 1, 1), (m(f(X)), 0, PAPER[1][2])):
            self.assertEqual(bad(GOOD, PAPER[:1] + (entry,) + PAPER[2:]), 1)
        for entry in ((n(B),), (n(B), True), (n(B), False, ()), (n(B), -1, ()), (n(B), 2, ())):
            self.assertEqual(bad(GOOD, PAPER[:4] + (entry,)), 3)
        for entry in ((n(B), 1), (n(B), 1, None), (n(B), 1, (), 4), (n(B), 0, ())):
            self.assertEqual(bad(GOOD, PAPER[:4] + (entry,)), 4)

    def test_reasons(self):
        one, other = PAPER[0][2]
        for thing in ((), (one,), (other, one), (one, other, other), (one, one), [one, other], None, 1, (one, None),
                      (one, list(other)), (one, other[:3]), (one, (*other, 0)), (one, ("high", 1, 0, 2)),
                      (one, ("low", 0, 0, 2)), (one, ("low", True, 0, 2)), (one, ("low", -7, 0, 2)),
                      (one, (None, 1, 0, 2)), (one, ("low", 1, False, 2)), (one, ("low", 1, 2, 2)),
                      (one, ("low", 1, -2, 2)), (one, ("low", 1, "0", 2)), (one, ("low", 1, 1, 2)),
                      (one, ("low", 1, 0, 3)), (one, ("low", 1, 0, -3)), (one, ("low", 1, 0, True)),
                      (one, ("low", 1, 0, None)), (one, ("low", 1, 0, 5)), (one, (["low"], 1, 0, 2)), ((), ()),
                      (("low", False, 1, 1), other), (("low", 0, True, 1), other), (("low", 0, 1, True), other)):
            self.assertEqual(bad(GOOD, put(0, PAPER[0][0], 0, thing)), 0)
        self.assertEqual(bad(GOOD, put(2, n(f(X)), 1, (("low", 2, 0, 2),))), 2)
        house = alone(Rule(p(f("T"))), Rule(p(f("T")), q(A)))
        self.assertEqual(bad(house, ((p(f(X)), 0, (("low", 0, 0, 1), ("low", 1, 0, 1))), (q(A), 0, ()))), 0)
        self.assertEqual(bad(house, ((p(f(X)), 0, (("low", 1, 0, 1),)), (q(A), 0, ()))), 0)

    def test_deep_values(self):
        deep = nested(5000)
        for entry in ((deep, 1, ()), (deep, 0, ()), (q(B), deep, ()), (q(B), 0, deep), (q(B), 0, (deep,)), deep, (deep,),
                      (p(f(A)), 0, ((deep, 0, 0, 6),)), (p(f(A)), 0, (("low", deep, 0, 6),)), (p(f(deep)), 0, ()),
                      (q(nested(5000, "T")), 0, ())):
            self.assertEqual(bad_index(p(f("T")), PAPER + (entry,)), 5)
        self.assertIsNone(bad_index(p(f("T")), PAPER + ((q(f(deep)), 0, ()), (q(nested(5000, "V0")), 0, ()))))
        self.assertEqual(bad_index(p(deep), PAPER), 0)

    def test_changed_tables(self):
        source = random.Random(53)
        wrong = 0
        for _ in range(300):
            house = House(random_low(source), Package("high", "low", rules=random_low(source).rules, sorts=[("c", 1)]))
            name, places, _, _ = source.choice(LOW_TRAITS)
            question = ("low." + name,) + tuple(f(source.choice([A, B, "X", f("Y")])) for _ in range(places))
            paper = lasting_table(house, "low", question)
            if paper is None:
                continue
            pool = [*PLAIN_VALUES, *paper, *[entry[0] for entry in paper], *paper[0][2], ("low", 0, 0, 0), 2, "V0", A]
            for _ in range(30):
                other = changed(source, paper, pool)
                if source.randrange(3) == 0:
                    other = changed(source, other, pool)
                wrong += bad(house, other, question) is not None
        self.assertGreater(wrong, 1000)


def bad_index(question, paper):
    """As `bad`, for values that are too deep to be shown or compared by Python itself."""
    try:
        return None if check_table(GOOD, "low", question, paper) is True else -1
    except BadPaper as error:
        return error.index


if __name__ == "__main__":
    unittest.main()
