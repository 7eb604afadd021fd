"""Next editions, guards, verdicts, strangers and witnesses: points 21, 22, 23."""

import random
import unittest
from collections import Counter

from helping import A, B, INT, LOW_SORTS, LOW_TRAITS, PLAIN_VALUES, base, f, g, raised, shop
from looking import KINDS, PLACES, lower_rule, random_looked, random_rules, random_seeing
from nevermet.changes import guard, judge, standing
from nevermet.errors import NoEdition, NoHouse, NotNext, Refused, TooMany
from nevermet.functions import Function
from nevermet.houses import House
from nevermet.looks import is_let_by, look
from nevermet.packages import Package
from nevermet.rules import Rule, SoftRule
from nevermet.strangers import check_witness, forms, witness
from nevermet.tables import lasts
from nevermet.terms import words

T, U, W = "T", "U", "W"
TRAIT = ("t", 1, False, ())


def low(*rules, **more):
    return Package("low", sorts=LOW_SORTS, traits=LOW_TRAITS, rules=rules, **more)


def p(term):
    return ("low.p", term)


def m(term):
    return ("low.m", term)


def r(one, other):
    return ("low.r", one, other)


K, KK = ("s.k",), ("s.kk",)


class Standing(unittest.TestCase):
    ELDER = Package("one", "b", "d", edition=3, sorts=[("x", 0), ("y", 1)], traits=[TRAIT, ("m", 1, True, ())],
                    rules=[Rule(("one.t", ("one.x",))), Rule(("one.m", T))], functions=[Function("f"), Function("g", T)])

    def changed(self, **parts):
        same = dict(needs=self.ELDER.needs, edition=4, sorts=self.ELDER.sorts, traits=self.ELDER.traits,
                    rules=self.ELDER.rules, functions=self.ELDER.functions, name="one")
        same.update(parts)
        return standing(self.ELDER, Package.of(same.pop("name"), same.pop("needs"), **same))

    def test_next_editions(self):
        self.assertIsNone(standing(self.ELDER, self.ELDER.later()))
        self.assertIsNone(standing(elder=self.ELDER, package=self.ELDER.later(
            "a", "c", sorts=[("z", 0)], traits=[("u", 1, False, ())], rules=[Rule(("one.m", T))], functions=[Function("h")])))
        self.assertIsNone(self.changed())

    def test_name_and_edition(self):
        self.assertEqual(self.changed(name="two"), ("name", None))
        for edition in (1, 2, 3, 5, 999):
            self.assertEqual(self.changed(edition=edition), ("edition", None))
        self.assertEqual(standing(self.ELDER, self.ELDER), ("edition", None))

    def test_needs(self):
        for needs, at in ((("d",), 0), (("b",), 1), ((), 0), (("a", "c"), 0), (("a", "b", "e"), 1)):
            self.assertEqual(self.changed(needs=needs), ("needs", at))
        self.assertIsNone(self.changed(needs=("a", "b", "c", "d", "e")))

    def test_items(self):
        x, y = self.ELDER.sorts
        for sorts, at in (((), 0), ((x,), 1), ((y, x), 0), ((("x", 1), y), 0), ((x, ("y", 2)), 1), ((("z", 0), x, y), 0),
                          ((x, ("z", 0), y), 1)):
            self.assertEqual(self.changed(sorts=sorts), ("sorts", at))
        t, mark = self.ELDER.traits
        for traits, at in (((), 0), ((t,), 1), ((("t", 2, False, ()), mark), 0), ((t, ("m", 1, False, ())), 1),
                           ((("t", 1, False, ("a",)), mark), 0), ((("t", 1, True, ()), mark), 0)):
            self.assertEqual(self.changed(traits=traits), ("traits", at))
        one, two = self.ELDER.rules
        for rules, at in (((), 0), ((one,), 1), ((two, one), 0), ((SoftRule(one.head), two), 0),
                          ((Rule(one.head, ("one.m", ("one.x",))), two), 0), ((one, Rule(("one.m", U))), 1),
                          ((Rule(one.head, a=INT), two), 0)):
            self.assertEqual(self.changed(rules=rules), ("rules", at))
        one, two = self.ELDER.functions
        for functions, at in (((), 0), ((two, one), 0), ((one, Function("g", U)), 1), ((one,), 1),
                              ((Function("f", wants=[("one.m", INT)]), two), 0)):
            self.assertEqual(self.changed(functions=functions), ("functions", at))

    def test_the_first_field(self):
        parts = {"name": "two", "edition": 9, "needs": (), "sorts": (), "traits": (), "rules": (), "functions": ()}
        for field in list(parts):
            self.assertEqual(self.changed(**parts), (field, None if field in ("name", "edition") else 0))
            del parts[field]


class Guard(unittest.TestCase):
    def guard(self, *rules, **more):
        elder = low(Rule(p(A)))
        package = elder.later(rules=rules, **more)
        found = [guard(elder, package, at) for at in range(1, 1 + len(rules))]
        self.assertEqual(guard(elder=elder, package=package, index=1), found[0])
        return found

    def test_headed(self):
        self.assertEqual(self.guard(Rule(p(B)), Rule(p(f(T))), Rule(r(A, f(T))), Rule(m(A))), [("headed",)] * 4)

    def test_trait(self):
        fresh = [("z", 2, False, ()), ("k", 1, True, ())]
        self.assertEqual(self.guard(Rule(("low.z", T, U)), Rule(("low.k", T)), Rule(("low.z", A, T)), Rule(("low.z", A, B)),
                                    Rule(p(T)), traits=fresh), [("trait",)] * 3 + [("headed",), None])

    def test_sort(self):
        sorts = [("c", 0), ("d", 1)]
        c, d = ("low.c",), ("low.d", T)
        self.assertEqual(self.guard(Rule(r(c, T)), Rule(r(d, U)), Rule(r(T, c)), Rule(r(f(c), T)), Rule(r(A, T)), Rule(r(c, d)),
                                    sorts=sorts), [("sort", 0), ("sort", 0), None, None, None, ("headed",)])
        triple = [("e", 3, False, ())]
        elder = Package("low", sorts=LOW_SORTS, traits=LOW_TRAITS + triple)
        for places, found in (((A, c, T), ("sort", 1)), ((A, T, c), None), ((c, c, T), ("sort", 0)), ((d, T, c), ("sort", 0)),
                              ((A, B, T), None), ((T, c, c), None)):
            package = elder.later(sorts=sorts, rules=[Rule(("low.e", *places))])
            self.assertEqual(guard(elder, package, 0), found, places)

    def test_of_this_package_in_this_edition(self):
        """A trait or sort of the elder edition, or of another package, guards nothing."""
        self.assertEqual(self.guard(Rule(("far.z", T)), Rule(r(("far.c",), T)), Rule(m(T)), sorts=[("c", 0)],
                                    traits=[("z", 1, False, ())]), [None, None, None])
        # The first of these goes before the others.
        self.assertEqual(self.guard(Rule(("low.z", ("low.c",), T)), Rule(("low.z", ("low.c",))), sorts=[("c", 0)],
                                    traits=[("z", 2, False, ())]), [("trait",), ("headed",)])


class Judge(unittest.TestCase):
    def test_quiet(self):
        elder = low(Rule(p(A)))
        self.assertEqual(judge(House(elder), elder.later()), ("quiet", ()))
        self.assertEqual(judge(house=House(elder), package=elder.later(
            rules=[Rule(p(B)), Rule(("low.z", T)), Rule(r(("low.c",), T))], sorts=[("c", 0)], traits=[("z", 1, False, ())])),
            ("quiet", ((1, ("headed",)), (2, ("trait",)), (3, ("sort", 0)))))

    def test_the_examples(self):
        self.assertEqual(judge(House(base(), shop()), base().later(sorts=[("set", 1)], rules=[
            Rule(("base.show", ("base.set", "T")))])), ("quiet", ((2, ("headed",)),)))
        elder = Package("neat", traits=[("neat", 1, False, ())])
        found = judge(House(elder), elder.later(rules=[Rule(("neat.neat", "T"))]))
        self.assertEqual((found[0], found[1][0][:3], len(found[1])), ("loud", (0, "loud", ("full",)), 1))
        self.assertEqual(found[1][0][3], Package("s", "neat", sorts=[("k", 0)], rules=[Rule(("neat.neat", ("s.k",)))]))

    def test_loud_for_a_use(self):
        """A soft rule for everything harms nobody who writes a rule, but one who relies on there being none."""
        elder = low()
        word, notes = judge(House(elder), elder.later(rules=[SoftRule(p(T))]))
        self.assertEqual((word, notes[0][:3]), ("loud", (0, "loud", ("uses",))))
        self.assertEqual(notes[0][3], Package("s", "low", sorts=[("k", 0)], traits=[("t", 1, False, ())], rules=[
            Rule(("s.t", K), p(K)), Rule(("s.t", K))]))
        word, notes = judge(House(elder), elder.later(rules=[Rule(m(T))]))
        self.assertEqual((word, notes[0][:3]), ("loud", (0, "loud", ("uses",))))

    def test_covered(self):
        """The rule is beneath a soft one that the elder edition has, and has no other conditions."""
        elder = low(SoftRule(r(T, U)))
        word, notes = judge(House(elder), elder.later(rules=[SoftRule(r(f(T), U))]))
        self.assertEqual((word, notes[0][:2]), ("covered", (1, "covered")))
        tried = dict(notes[0][2])
        self.assertEqual(list(tried), [("across", 1), ("wide", 1), ("uses",)])
        self.assertEqual(tried["across", 1], ())
        self.assertEqual(tried["wide", 1], ())
        self.assertEqual(tried["uses",], (("pair", 1, ("s", 0)),))

    def test_notes_of_several_rules(self):
        elder = low(SoftRule(r(T, U)), SoftRule(p(T)))
        later = elder.later(rules=[SoftRule(r(f(T), U)), Rule(p(A)), Rule(m(T)), Rule(("low.z", T))],
                            traits=[("z", 1, False, ())])
        word, notes = judge(House(elder), later)
        self.assertEqual(word, "loud")
        self.assertEqual([note[:2] for note in notes], [(2, "covered"), (3, ("headed",)), (4, "loud"), (5, ("trait",))])

    def test_errors_in_order(self):
        elder = low()
        bad = Package("low", "none", edition=3, rules=[Rule(("low.z", T))])
        error = raised(NoEdition, judge, House(base()), bad)
        self.assertEqual((error.name, error.edition), ("low", 0))
        error = raised(NotNext, judge, House(elder), bad)
        self.assertEqual((error.field, error.index), ("edition", None))
        error = raised(NotNext, judge, House(elder), low(edition=2).later())
        self.assertEqual((error.field, error.index), ("edition", None))
        error = raised(NotNext, judge, House(elder), Package("low", edition=2, sorts=LOW_SORTS[:1]))
        self.assertEqual((error.field, error.index), ("sorts", 1))
        error = raised(NoHouse, judge, House(elder), elder.later("none", "less", rules=[Rule(("low.z", T))]))
        self.assertEqual((error.reason, error.name), ("need", "less"))
        ring = elder.later("high")
        error = raised(NoHouse, judge, House(elder, Package("high", "low")), ring)
        self.assertEqual((error.reason, error.name), ("ring", "high"))
        self.assertEqual(raised(Refused, judge, House(elder), elder.later(rules=[Rule(("low.z", T))])).complaints,
                         (("word", "rules", 0),))
        self.assertEqual(raised(Refused, judge, House(elder), elder.later(rules=[Rule(p(T)), Rule(p(U))])).complaints,
                         (("pair", 1, ("low", 0)),))

    def test_a_next_edition_that_needs_another_package(self):
        elder = low(Rule(p(A)))
        far = Package("far", sorts=[("c", 0)], traits=[TRAIT])
        later = elder.later("far", rules=[Rule(r(T, ("far.c",))), Rule(p(f(T)), ("far.t", T))])
        word, notes = judge(House(elder, far), later)
        # The forms that name a word of `far` are left out, and the condition is no helping rule.
        self.assertEqual(word, "loud")
        self.assertEqual([note[:2] for note in notes], [(1, "loud"), (2, ("headed",))])
        self.assertEqual(notes[0][2:], (("across", 0), Package("s", "low", sorts=[("k", 0)], rules=[Rule(r(K, "V0"))])))

    def test_nothing_is_modified(self):
        elder = low(SoftRule(r(T, U)))
        house, later = House(elder), elder.later(rules=[SoftRule(r(f(T), U)), Rule(m(T), m(T))])
        before = (str(elder), repr(house), str(later))
        judge(house, later)
        list(forms(house, later, 1))
        witness(house, later, 2)
        self.assertEqual((str(elder), repr(house), str(later)), before)


def made(rule, elder=None, **more):
    """The forms of a rule that is added to an edition, as a dict."""
    elder = low() if elder is None else elder
    later = elder.later(rules=[rule], **more)
    found = list(forms(House(elder), later, len(elder.rules)))
    assert len(dict(found)) == len(found)
    for _, stranger in found:
        assert (stranger.edition, stranger.needs, stranger.functions) == (1, ("low",), ())
    return dict(found)


class Forms(unittest.TestCase):
    def test_a_hard_rule(self):
        found = made(Rule(r(f(T), U)))
        self.assertEqual(list(found), [("full",), ("across", 1), ("wide", 1), ("uses",)])
        sorts = [("k", 0), ("kk", 0)]
        self.assertEqual(found["full",], Package("s", "low", sorts=sorts, rules=[Rule(r(f(K), KK))]))
        self.assertEqual(found["across", 1], Package("s", "low", sorts=sorts, rules=[Rule(r(f(K), KK))]))
        self.assertEqual(found["wide", 1], Package("s", "low", sorts=sorts, rules=[Rule(r(f("V0"), KK))]))
        self.assertEqual(found["uses",], Package("s", "low", sorts=sorts, traits=[("t", 2, False, ())], rules=[
            Rule(("s.t", f(K), KK), r(f(K), KK)), Rule(("s.t", f(K), KK))]))

    def test_soft_rules_marks_and_headed_ones(self):
        self.assertEqual(list(made(SoftRule(r(T, U)))), [("across", 0), ("wide", 0), ("across", 1), ("wide", 1), ("uses",)])
        self.assertEqual(list(made(Rule(m(T)))), [("uses",)])
        self.assertEqual(list(made(Rule(("low.o", T, U)))), [("uses",)])
        self.assertEqual(list(made(Rule(p(A)))), [("full",), ("uses",)])
        self.assertEqual(list(made(SoftRule(p(A)))), [("uses",)])
        self.assertEqual(made(Rule(p(A)))["full",], Package("s", "low", rules=[Rule(p(A))]))

    def test_bare_places_and_variables_behind(self):
        elder = Package("low", sorts=LOW_SORTS, traits=LOW_TRAITS + [("e", 3, False, ())])
        def e(*places):
            return ("low.e", *places)
        found = made(Rule(e(T, g(U, T), W)), elder)
        kkk = ("s.kkk",)
        self.assertEqual(list(found), [("full",), ("across", 0), ("wide", 0), ("across", 2), ("wide", 2), ("uses",)])
        self.assertEqual([found[form].rules[0] for form in list(found)[:5]], [
            Rule(e(K, g(KK, K), kkk)), Rule(e(K, "V0", "V1")), Rule(e(K, "V0", "V1")), Rule(e(K, g(KK, K), kkk)),
            Rule(e(K, g("V0", "V1"), kkk))])
        self.assertEqual(found["full",].sorts, (("k", 0), ("kk", 0), ("kkk", 0)))
        found = made(Rule(e(g(f(T), A), U, W)), elder)
        self.assertEqual([found[form].rules[0] for form in list(found)[:5]], [
            Rule(e(g(f(K), A), KK, kkk)), Rule(e(g(f(K), A), KK, "V0")), Rule(e(g("V0", "V1"), KK, "V2")),
            Rule(e(g(f(K), A), KK, kkk)), Rule(e(g("V0", "V1"), KK, kkk))])
        self.assertEqual(len(found), 6)

    def test_variables_that_occur_several_times(self):
        found = made(Rule(r(g(T, T), T)))
        self.assertEqual(found["full",], Package("s", "low", sorts=[("k", 0)], rules=[Rule(r(g(K, K), K))]))
        self.assertEqual(found["wide", 1].rules, (Rule(r(g("V0", "V1"), K)),))
        found = made(Rule(r(T, T)))
        self.assertEqual(found["across", 0].rules, (Rule(r(K, "V0")),))
        self.assertEqual(found["across", 1].rules, (Rule(r(K, K)),))

    def test_the_name(self):
        """The letter s as often as no package in the view of the next edition is called so."""
        s, sss = Package("s", sorts=[("k", 0)]), Package("sss")
        elder = Package("low", "s", traits=[("p", 1, False, ())])
        for others, more, name in (((s,), (), "ss"), ((s, Package("ss")), ("ss",), "sss"), ((s, sss), ("sss",), "ss"),
                                   ((s, Package("ss"), sss), ("ss", "sss"), "ssss"), ((s, Package("ss")), (), "ss")):
            later = elder.later(*more, rules=[Rule(p(T))])
            form, stranger = next(forms(house=House(elder, *others), package=later, index=0))
            self.assertEqual((form, stranger), (("full",), Package(name, "low", sorts=[("k", 0)], rules=[
                Rule(p((name + ".k",)))])))

    def test_many_variables(self):
        names = ["A", "B", "C", "D", "E", "F", "G", "H", "I"]
        eight, nine = (r(g(g(names[0], names[1]), g(names[2], names[3])), g(g(*names[4:6]), g(names[6], last)))
                       for last in (names[7], g(*names[7:])))
        found = made(Rule(eight))
        self.assertEqual(found["full",].sorts, tuple(("k" * many, 0) for many in range(1, 9)))
        self.assertEqual(made(Rule(nine)), {})
        self.assertIsNone(witness(House(low()), low().later(rules=[Rule(nine)]), 0))
        bare = Rule(r(nine[2], T))
        self.assertEqual(list(made(Rule(r(eight[1], T)))), [("full",), ("across", 1), ("wide", 1), ("uses",)])
        self.assertEqual(list(made(bare)), [("full",), ("across", 1), ("wide", 1), ("uses",)])
        self.assertEqual(judge(House(low()), low().later(rules=[Rule(r(T, g(g("A", "B"), g(g("C", "D"), g(g("E", "F"), g(
            "G", "H"))))))])), ("covered", ((0, "covered", ()),)))

    def test_words_that_the_elder_edition_neither_has_nor_sees(self):
        """A new sort behind a bare place: only the forms in which variables stand there are left."""
        c = ("low.c",)
        found = made(Rule(r(T, c)), sorts=[("c", 0)])
        self.assertEqual(list(found), [("across", 0), ("wide", 0)])
        found = made(Rule(r(f(c), T)), sorts=[("c", 0)])
        self.assertEqual(list(found), [("wide", 1)])
        self.assertEqual(made(Rule(("low.z", T)), traits=[("z", 1, False, ())]), {})
        self.assertEqual(made(Rule(("low.w", T)), traits=[("w", 1, True, ())]), {})
        # What another package of the house has does not count, nor what only the next edition sees.
        elder, far = low(), Package("far", sorts=[("c", 0)], traits=[TRAIT])
        later = elder.later("far", rules=[Rule(r(T, ("far.c",))), Rule(("far.t", T))])
        house = House(elder, far)
        self.assertEqual([form for form, _ in forms(house, later, 0)], [("across", 0), ("wide", 0)])
        self.assertEqual(list(forms(house, later, 1)), [])

    def test_helping_rules(self):
        """Conditions that last are answered; those that do not last, or name other words, or come again, are not."""
        found = made(Rule(r(f(T), U), p(T), m(U), p(T), p(A)))
        for form in found:
            self.assertEqual(found[form].rules[-2:], (Rule(p(K)), Rule(m(KK))))
            self.assertEqual(len(found[form].rules), 3 + (form == ("uses",)))
        # The question p(f(k)) is not shut for the stranger, and q(kk) is answered by `low`.
        found = made(Rule(r(f(T), U), p(f(T)), ("low.q", U), p(U)), low(Rule(("low.q", T))))
        self.assertEqual(found["full",].rules[1:], (Rule(p(KK)),))
        # Behind the helping rule p(k), the question q(k) no longer lasts; ahead of it, it does.
        elder = low(Rule(("low.q", T), p(T)))
        self.assertEqual(made(Rule(r(f(T), U), p(T), ("low.q", T)), elder)["full",].rules[1:], (Rule(p(K)),))
        self.assertEqual(made(Rule(r(f(T), U), ("low.q", T), p(T)), elder)["full",].rules[1:],
                         (Rule(("low.q", K)), Rule(p(K))))
        # A condition in a word that is new, or of constants of `low` alone.
        found = made(Rule(r(T, U), ("low.z", T), p(U), p(A)), traits=[("z", 1, False, ())])
        self.assertEqual(found["full",].rules[1:], (Rule(p(KK)),))

    def test_helping_rules_in_the_order_of_the_conditions(self):
        found = made(Rule(r(f(T), U), m(T), p(U), r(f(T), U), m(U)))
        self.assertEqual(found["across", 1].rules, (Rule(r(f(K), KK)), Rule(m(K)), Rule(p(KK)), Rule(m(KK))))
        # Of the last form, the first two rules ask and do not ask; r(f(k), kk) is answered by none of them.
        self.assertEqual(found["uses",].rules[2:], (Rule(m(K)), Rule(p(KK)), Rule(r(f(K), KK)), Rule(m(KK))))

    def test_members_and_conditions_are_left_out(self):
        elder = Package("low", sorts=[("a", 0)], traits=[("t", 1, False, ("x",))])
        found = made(Rule(("low.t", T), x="T"), elder)
        self.assertEqual(found["full",].rules, (Rule(("low.t", K)),))

    def test_walked_by_turns(self):
        elder = low()
        later = elder.later(rules=[Rule(r(f(T), U)), Rule(p(T))])
        house = House(elder)
        ones, others = forms(house, later, 0), forms(house, later, 1)
        turns = [(next(ones), next(others)) for _ in range(4)]
        self.assertEqual([[one[0] for one in turn] for turn in turns], [
            [("full",), ("full",)], [("across", 1), ("across", 0)], [("wide", 1), ("wide", 0)], [("uses",), ("uses",)]])
        self.assertEqual(([*ones], [*others]), ([], []))


def full_house(many):
    """An elder edition that sees so many packages, in its house."""
    others = [Package("x" + letter) for letter in "abcdefghijk"[:many]]
    names = [one.name for one in others]
    # A package needs at most eight others, so the rest is needed by the last of these.
    last = [Package(names[7], *names[8:])] if many > 8 else others[7:8]
    elder = Package("low", *names[:8], traits=[("p", 1, False, ()), ("q", 1, False, ())])
    return elder, House(elder, *others[:7], *last, *others[8:])


class TooManyPackages(unittest.TestCase):
    def test_twelve_with_the_stranger(self):
        elder, house = full_house(10)
        later = elder.later(rules=[Rule(p(T), ("low.q", T))])
        self.assertEqual(len(house), 11)
        self.assertEqual([form for form, _ in forms(house, later, 0)], [("full",), ("across", 0), ("wide", 0), ("uses",)])
        self.assertEqual(judge(house, later)[0], "loud")

    def test_thirteen_with_the_stranger(self):
        elder, house = full_house(11)
        later = elder.later(rules=[Rule(p(T), ("low.q", T))])
        self.assertEqual(raised(TooMany, judge, house, later).limit, 12)
        self.assertEqual(raised(TooMany, witness, house, later, 0).limit, 12)
        self.assertEqual(raised(TooMany, lambda: next(forms(house, later, 0))).limit, 12)
        plain = elder.later(rules=[Rule(p(T))])
        self.assertEqual(raised(TooMany, judge, house, plain).limit, 12)
        stranger = Package("s", "low", sorts=[("k", 0)], rules=[Rule(p(K))])
        self.assertEqual(raised(TooMany, check_witness, house, plain, stranger).limit, 12)
        self.assertEqual(judge(house, elder.later(rules=[Rule(p(("low.c",)))], sorts=[("c", 0)]))[0], "quiet")

    def test_the_second_house_is_made_only_if_the_first_one_lets_by(self):
        """The next edition sees so much more that its view has twelve packages; the elder one sees none of them."""
        _, whole = full_house(11)
        others = [whole[name] for name in whole.names if name != "low"]
        traits = [("p", 1, False, ()), ("t", 1, False, ("x",))]
        elder = Package("low", traits=traits)
        house = House(elder, *others)
        needs = whole["low"].needs
        self.assertEqual(raised(TooMany, judge, house, elder.later(*needs, rules=[Rule(p(T))])).limit, 12)
        # A stranger for the trait with a member is refused in the first house, except for the last form.
        later = elder.later(*needs, rules=[Rule(("low.t", T), x="T")])
        self.assertEqual(raised(TooMany, judge, house, later).limit, 12)
        soft = Package("s", "low", sorts=[("k", 0)], rules=[Rule(("low.t", K))])
        self.assertIs(check_witness(house, later, soft), False)


class Witness(unittest.TestCase):
    def test_the_first_form_that_is_harmed(self):
        elder = low(SoftRule(r(T, U)))
        later = elder.later(rules=[SoftRule(r(f(T), U)), Rule(m(T))])
        house = House(elder)
        self.assertIsNone(witness(house, later, 1))
        form, stranger = witness(house=house, package=later, index=2)
        self.assertEqual(form, ("uses",))
        self.assertEqual(look(House(elder, stranger), "s")[0], "let by")
        self.assertEqual(look(House(later, stranger), "s"), ("refused", (("pair", 1, ("s", 0)),)))
        later = low().later(rules=[Rule(r(f(T), U))])
        form, stranger = witness(House(low()), later, 0)
        self.assertEqual((form, stranger.rules), (("full",), (Rule(r(f(K), KK)),)))

    def test_a_guarded_rule_has_none(self):
        elder = low(Rule(p(A)))
        self.assertIsNone(witness(House(elder), elder.later(rules=[Rule(p(B))]), 1))
        self.assertIsNone(witness(House(elder), elder.later(rules=[Rule(r(("low.c",), T))], sorts=[("c", 0)]), 1))

    def test_check(self):
        elder = low()
        later = elder.later(rules=[Rule(p(T))])
        house = House(elder, base())
        _, stranger = witness(house, later, 0)
        self.assertIs(check_witness(house=house, package=later, stranger=stranger), True)
        def like(*needs, name="s", edition=1, rule=None):
            word = (name + ".k",)
            return Package(name, *needs, edition=edition, sorts=[("k", 0)], rules=[rule or Rule(p(word))])
        self.assertIs(check_witness(house, later, like("low", edition=7)), True)
        self.assertIs(check_witness(house, later, like("low", name="zebra")), True)
        self.assertIs(check_witness(house, later, like("low", name="base")), True)
        for thing in (like(), like("low", "base"), like("base"), like("low", rule=Rule(("low.q", K))),
                      like("low", rule=Rule(p(("s.none",)))), like("low", rule=Rule(p(T))), elder, later,
                      low(Rule(p(A))), str(stranger), (stranger,), [stranger], *PLAIN_VALUES):
            self.assertIs(check_witness(house, later, thing), False, thing)
        high = Package("high", "low")
        self.assertIs(check_witness(House(elder, high), later, like("low", name="high")), True)
        needing = Package("low", "base", edition=2, sorts=LOW_SORTS, traits=LOW_TRAITS, rules=[Rule(p(T))])
        self.assertIs(check_witness(house, needing, like("low", name="base")), False)
        self.assertIs(check_witness(house, needing, like("low")), True)


class Random(unittest.TestCase):
    def test_verdicts(self):
        """What the notes say is so; quiet editions harm nobody who was let by, and change no hard answer."""
        source, found = random.Random(61), Counter()
        for _ in range(800):
            elder = random_looked(source, 0, 5)
            if not is_let_by(House(elder), "low"):
                continue
            added = random_rules(source, KINDS, KINDS, PLACES + [("low.c",)], 3)
            if elder.rules and source.randrange(2):
                added = [lower_rule(source, source.choice(elder.rules))]
            if source.randrange(4) == 0:
                elder = low(SoftRule(r(T, U)), SoftRule(p(T), p(A)))
                added = [kind(head) for kind, head in [(SoftRule, r(f(T), U)), (SoftRule, r(T, A)), (Rule, r(A, U)),
                                                       (SoftRule, p(T)), (Rule, r(f(f(T)), U))] if source.randrange(3) == 0]
            later = elder.later(sorts=[("c", 0)], rules=added)
            house = House(elder)
            if not is_let_by(House(later), "low"):
                raised(Refused, judge, house, later)
                continue
            word, notes = judge(house, later)
            found[word] += 1
            self.assertEqual([note[0] for note in notes], list(range(len(elder.rules), len(later.rules))))
            for note in notes:
                self.check_note(house, elder, later, note)
            told = {note[1] for note in notes if isinstance(note[1], str)}
            self.assertEqual(word, "loud" if "loud" in told else "covered" if told else "quiet")
            if word == "quiet":
                for at in range(4):
                    high = random_seeing(source, elder, functions=2)
                    if is_let_by(House(elder, high), "high"):
                        self.assertEqual(look(House(later, high), "high"), look(House(elder, high), "high"))
                        found["unharmed"] += 1
        self.assertTrue(all(found[one] > 10 for one in ("quiet", "loud", "covered", "unharmed")), found)

    def check_note(self, house, elder, later, note):
        guarded = guard(elder, later, note[0])
        if guarded is not None:
            self.assertEqual(note, (note[0], guarded))
            self.assertIsNone(witness(house, later, note[0]))
            return
        made_forms = list(forms(house, later, note[0]))
        first = None
        tried = []
        for form, stranger in made_forms:
            self.check_helping(elder, later.rules[note[0]], stranger)
            one, other = (look(House(package, stranger), stranger.name) for package in (elder, later))
            self.assertIs(check_witness(house, later, stranger), one[0] == "let by" and other[0] == "refused")
            if first is None:
                if one[0] == "let by" and other[0] == "refused":
                    first = (form, stranger)
                else:
                    tried.append((form, one[1] if one[0] == "refused" else ()))
        self.assertEqual(witness(house, later, note[0]), first)
        self.assertEqual(note[1:], ("covered", tuple(tried)) if first is None else ("loud", *first))

    def check_helping(self, elder, rule, stranger):
        """Each helping rule answers what lasted before; no other condition of known words lasts at last."""
        bare = 2 if stranger.traits else 1
        for many in range(bare, len(stranger.rules)):
            before = Package("s", "low", sorts=stranger.sorts, traits=stranger.traits, rules=stranger.rules[:many])
            self.assertTrue(lasts(House(elder, before), "s", stranger.rules[many].head))
        names = list(dict.fromkeys(words(*stranger.rules[0].places)))
        self.assertTrue(all(name.split(".")[0] in ("s", "low") for name in names))


if __name__ == "__main__":
    unittest.main()
