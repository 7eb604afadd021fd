"""Looks, and the check of their papers: points 2, 19, 20."""

import random
import unittest
from collections import Counter

from helping import A, B, LOW_SORTS, LOW_TRAITS, PLAIN_VALUES, base, changed, f, g, raised, wrong_index
from looking import random_looked, random_papers, random_seeing, slow_look, slow_look_check
from nevermet.errors import BadPaper, Refused
from nevermet.functions import Function
from nevermet.houses import House
from nevermet.lookcheck import check_look
from nevermet.looks import is_let_by, look, need_let_by
from nevermet.packages import Package
from nevermet.rules import Rule, SoftRule
from nevermet.words import wrong_forms, wrong_words

NO, YES = ("low.q", B), ("low.q", A)
TABLE = ((NO, 0, ()),)


def p(term):
    return ("low.p", term)


def q(term):
    return ("low.q", term)


def low(*rules, **more):
    return Package("low", sorts=LOW_SORTS, traits=LOW_TRAITS, rules=rules, **more)


def seen(*rules, functions=(), name="low"):
    """The look at a package with these rules; all functions agree about it."""
    house = House(Package(name, sorts=LOW_SORTS, traits=LOW_TRAITS, rules=rules, functions=functions))
    found = look(house, name)
    assert is_let_by(house, name) is (found[0] == "let by")
    if found[0] == "let by":
        assert need_let_by(house) is None
    else:
        assert raised(Refused, need_let_by, house).complaints == found[1]
    return found


class Groups(unittest.TestCase):
    def test_one_complaint_of_each_group(self):
        self.assertEqual(seen(Rule(p(A)), Rule(("low.z", A))), ("refused", (("word", "rules", 1),)))
        self.assertEqual(seen(Rule(("low.m", A), p(A))), ("refused", (("mark", 0),)))
        self.assertEqual(seen(Rule(p(A), item=A)), ("refused", (("member", 0),)))
        self.assertEqual(seen(Rule(p(A)), Rule(p("T"))), ("refused", (("pair", 1, ("low", 0)),)))
        self.assertEqual(seen(functions=[Function("fun", body=[("ask", p(A))])]), ("refused", (("step", 0, 0),)))

    def test_only_the_first_group_is_told(self):
        step = Function("fun", "T", body=[("ask", p("T"))])
        word = Function("gun", "T", wants=[("low.z", "T")])
        pair = [Rule(p(A)), Rule(p("T"))]
        form = [SoftRule(("low.m", A))]
        self.assertEqual(seen(Rule(("low.z", A)), *form, *pair, functions=[step, word]),
                         ("refused", (("word", "rules", 0), ("word", "functions", 1))))
        self.assertEqual(seen(*pair, *form, functions=[step]), ("refused", (("mark", 2),)))
        self.assertEqual(seen(*pair, functions=[step]), ("refused", (("pair", 1, ("low", 0)),)))
        self.assertEqual(seen(*pair[1:], functions=[step]), ("let by", ()))
        self.assertEqual(seen(*pair[:1], functions=[step]), ("refused", (("step", 0, 0),)))

    def test_order_of_the_complaints(self):
        one = low(Rule(p("T")), SoftRule(q("T"), p("T")))
        c = ("mid.c",)
        mid = Package("mid", "low", "zed", "at", sorts=[("c", 0)], traits=[("t", 1, False, ())], rules=[
            Rule(("mid.t", c)), Rule(p(c)), Rule(q(c)), Rule(q(c)), Rule(("mid.t", "T"))],
            functions=[Function("f")])
        at = Package("at", "low", sorts=[("d", 0)])
        zed = Package("zed", "low", sorts=[("d", 0)])
        house = House(one, mid, at, zed)
        self.assertEqual(look(house, "mid"), ("refused", (
            ("pair", 1, ("low", 0)), ("pair", 3, ("mid", 2)), ("pair", 4, ("mid", 0)))))
        steps = [("ask", p(A)), ("ask", q(A)), ("ask", ("low.r", A, A))]
        self.assertEqual(seen(Rule(q(A)), functions=[Function("fun", body=steps), Function("gun"),
                                                      Function("hun", body=steps)]),
                         ("refused", (("step", 0, 0), ("step", 0, 2), ("step", 2, 0), ("step", 2, 2))))

    def test_a_place_that_is_not_in_place(self):
        twice = Package("twice", "base", sorts=[("gem", 0)], rules=[Rule(("base.show", ("base.list", ("twice.gem",))))])
        self.assertEqual(look(House(base(), twice), "twice"), ("refused", (("place", 0),)))


class LetBy(unittest.TestCase):
    def test_nothing_to_look_at(self):
        self.assertEqual(seen(), ("let by", ()))
        self.assertEqual(seen(Rule(p(A)), Rule(p(B)), Rule(("low.m", A)), Rule(("low.m", "T"))), ("let by", ()))

    def test_papers_of_several_pairs(self):
        rules = [SoftRule(p("T"), NO), Rule(p(A)), Rule(YES), SoftRule(p(f("T")), NO), Rule(p(f(A)), NO)]
        self.assertEqual(seen(*rules), ("let by", (
            (1, ("low", 0), ("beneath",)), (3, ("low", 0), ("beneath",)), (4, ("low", 0), ("beneath",)),
            (4, ("low", 3), ("beneath",)))))
        rules = [Rule(p(A), YES), SoftRule(p("T"), YES), Rule(p(f("T")), NO), Rule(p(f(f("T"))), YES, NO), Rule(YES)]
        self.assertEqual(seen(*rules), ("let by", (
            (1, ("low", 0), ("above",)), (2, ("low", 1), ("apart", 0, 0, TABLE)), (3, ("low", 1), ("apart", 0, 1, TABLE)),
            (3, ("low", 2), ("apart", 0, 1, TABLE)))))

    def test_arguments_by_name_and_kinds(self):
        house = House(low())
        self.assertEqual(look(house=house, name="low"), ("let by", ()))
        self.assertIs(is_let_by(house=house, name="low"), True)
        self.assertIs(is_let_by(House(low(Rule(p("T")), Rule(p(A)))), "low"), False)
        self.assertIsNone(need_let_by(house=house))

    def test_the_example(self):
        odd = Package("odd", "base", sorts=[("gem", 0)], traits=[("neat", 1, False, ())],
                      rules=[Rule(("odd.neat", "T"), ("base.show", "T")), Rule(("odd.neat", ("odd.gem",)))])
        self.assertEqual(look(House(base(), odd), "odd"), ("let by", (
            (1, ("odd", 0), ("apart", 1, 0, ((("base.show", ("odd.gem",)), 0, ()),))),)))

    def test_all_packages_of_a_house(self):
        """A package that nobody needs is looked at, too; of two that are refused, the least name is told."""
        bad = [Package(name, traits=[("t", 1, False, ())], rules=[Rule((name + ".t", "T")), Rule((name + ".t", "T"))])
               for name in ("cat", "ant", "bee")]
        self.assertIsNone(need_let_by(House()))
        self.assertIsNone(need_let_by(House(base(), low())))
        self.assertEqual(raised(Refused, need_let_by, House(base(), *bad)).complaints, (("pair", 1, ("ant", 0)),))
        self.assertEqual(raised(Refused, need_let_by, House(base(), bad[2], bad[0])).complaints, (("pair", 1, ("bee", 0)),))

    def test_the_look_goes_by_the_view(self):
        """Packages that are not seen do not matter, refused ones that are seen matter only by their rules."""
        bad = Package("bad", "low", sorts=[("c", 0)], rules=[Rule(p(("bad.c",))), Rule(p(("bad.c",))), Rule(p(f("T")))])
        one = low(Rule(p(f(A))))
        house = House(one, bad, Package("top", "bad", "low", sorts=[("d", 0)], rules=[Rule(p(("top.d",)))]))
        self.assertEqual([look(house, name)[0] for name in ("low", "bad", "top")], ["let by", "refused", "let by"])

    def test_random_packages(self):
        source, found = random.Random(5), Counter()
        for _ in range(500):
            one = random_looked(source, source.choice([0, 0, 3]), source.choice([6, 12]))
            house = House(one, random_seeing(source, one, functions=source.choice([0, 3])))
            before = [str(house[name]) for name in house.names]
            for name in house.names:
                told = look(house, name)
                self.assertEqual(told, slow_look(house, name))
                found[told[0] if told[0] == "let by" else told[1][0][0]] += 1
                found.update(entry[2][0] for entry in told[1] if told[0] == "let by")
                if told[0] == "let by":
                    self.assertIs(check_look(house, name, told[1]), True)
            self.assertEqual([str(house[name]) for name in house.names], before)
        self.assertTrue(all(found[one] > 10 for one in ("pair", "step", "let by", "apart", "beneath", "above")), found)


RULES = [SoftRule(p("T"), NO, YES), Rule(p(A), YES), Rule(YES), SoftRule(p(f("T")), NO), Rule(p(f(A)), ("low.r", A, A), NO)]
HOUSE = House(low(*RULES))
PAPERS = ((1, ("low", 0), ("beneath",)), (3, ("low", 0), ("beneath",)),
          (4, ("low", 0), ("apart", 0, 0, ((("low.r", A, A), 0, ()),))),
          (4, ("low", 3), ("apart", 0, 0, ((("low.r", A, A), 0, ()),))))


def bad(papers):
    """The index of the BadPaper; None if the papers are right."""
    return wrong_index(check_look, HOUSE, "low", papers)


def put(at, *entry):
    return PAPERS[:at] + (entry,) + PAPERS[at + 1:]


class Check(unittest.TestCase):
    def test_what_look_returns(self):
        self.assertEqual(look(HOUSE, "low"), ("let by", PAPERS))
        self.assertIsNone(bad(PAPERS))
        self.assertIs(check_look(house=HOUSE, name="low", papers=PAPERS), True)
        self.assertIs(check_look(House(base()), "base", ()), True)

    def test_no_tuple(self):
        for thing in (*PLAIN_VALUES, list(PAPERS)):
            if thing != ():
                self.assertEqual(raised(BadPaper, check_look, HOUSE, "low", thing).index, 0, thing)

    def test_apart_with_any_condition_that_lasts(self):
        no = TABLE
        self.assertIsNone(bad(put(0, 1, ("low", 0), ("apart", 1, 0, no))))
        self.assertIsNone(bad(put(1, 3, ("low", 0), ("apart", 1, 0, no))))
        self.assertIsNone(bad(put(1, 3, ("low", 0), ("apart", 0, 0, no))))
        self.assertIsNone(bad(put(2, 4, ("low", 0), ("apart", 0, 1, no))))
        self.assertIsNone(bad(put(2, 4, ("low", 0), ("apart", 1, 0, no))))
        self.assertIsNone(bad(put(3, 4, ("low", 3), ("apart", 1, 0, no))))

    def test_tables_in_another_order_and_with_more_entries(self):
        house = House(low(Rule(p(f("T")), ("low.r", "T", A)), Rule(p(f(A))), Rule(("low.r", A, "T"), q("T"), q(B))))
        start, other = ("low.r", A, A), (q(B), 0, ())
        table = ((start, 0, (("low", 2, 0, 1),)), (q(A), 0, ()))
        self.assertEqual(look(house, "low"), ("let by", ((1, ("low", 0), ("apart", 1, 0, table)),)))
        for entries, found in [
                (table, None), ((*table, other), None), ((table[0], other, table[1]), 0),
                (((start, 0, (("low", 2, 0, 2),)), other, table[1]), None), (((start, 0, (("low", 2, 1, 1),)), other), None),
                (table[:1], 0), ((), 0), (table[1:], 0), ((table[1], table[0]), 0)]:
            papers = ((1, ("low", 0), ("apart", 1, 0, entries)),)
            self.assertEqual(wrong_index(check_look, house, "low", papers), found, entries)

    def test_pairs_that_are_not_the_ones_that_meet(self):
        self.assertEqual(bad(PAPERS[1:]), 0)
        self.assertEqual(bad(PAPERS[:1] + PAPERS[2:]), 1)
        self.assertEqual(bad(PAPERS[:2] + PAPERS[1:]), 2)
        self.assertEqual(bad(PAPERS[:1] * 4), 1)
        self.assertEqual(bad((PAPERS[1], PAPERS[0], *PAPERS[2:])), 0)
        self.assertEqual(bad((*PAPERS[:2], PAPERS[3], PAPERS[2])), 2)
        for many in range(4):
            self.assertEqual(bad(PAPERS[:many]), many)
        for more in (PAPERS[3], None, (), (4, ("low", 4), ("beneath",))):
            self.assertEqual(bad((*PAPERS, more)), 4)
        for pair in ((1, ("low", 1)), (0, ("low", 0)), (2, ("low", 0)), (1, ("base", 0)), (1, ("low", 0), 0)):
            self.assertEqual(bad(((*pair, ("beneath",)), *PAPERS[1:])), 0)

    def test_kinds(self):
        for entry in ((True, ("low", 0), ("beneath",)), (1, ("low", False), ("beneath",)), (1, ["low", 0], ("beneath",)),
                      [1, ("low", 0), ("beneath",)], (1, ("low", 0), ["beneath"]), (1, ("low", 0), "beneath"),
                      (1, ("low", 0)), (1, ("low", 0), ("beneath",), 0), (1, ("low", 0, 0), ("beneath",)),
                      (1, "low", ("beneath",)), ("1", ("low", 0), ("beneath",)), None, (), (1, None, ("beneath",)),
                      (1, (["low"], 0), ("beneath",)), (1, ("low", 0), None), (1, ("low", 0), ()),
                      (1, ("low", 0), (["beneath"],))):
            self.assertEqual(bad((entry, *PAPERS[1:])), 0, entry)
        for reason in (("apart", False, 0, TABLE), ("apart", 0, True, TABLE), ("apart", 0, 1, list(TABLE)),
                       ("apart", 0, 1, TABLE, 0), ("apart", 0, 1), ("apart", "0", 1, TABLE), ("apart", 0, None, TABLE),
                       ["apart", 0, 1, TABLE], ("apart",), (0, 1, TABLE), ("apart", 2, 0, TABLE), ("apart", -1, 0, TABLE),
                       ("apart", 0, 2, TABLE), ("apart", 0, -1, TABLE), ("apart", 1, 2, TABLE), ("apart", 10 ** 50, 1, TABLE)):
            self.assertEqual(bad(put(2, 4, ("low", 0), reason)), 2, reason)

    def test_reasons_that_are_not_true(self):
        for reason in (("above",), ("beside",), ("pair",), ("beneath", 0), ("apart", 0, 0, TABLE), ("apart", 1, 1, TABLE)):
            self.assertEqual(bad(put(0, 1, ("low", 0), reason)), 0, reason)
        for reason in (("beneath",), ("above",), ("apart", 0, 0, TABLE), ("apart", 1, 1, TABLE),
                       ("apart", 0, 0, ((("low.r", A, B), 0, ()),)), ("apart", 0, 1, ((NO, 1, ()),)),
                       ("apart", 0, 1, ((NO, 0, (("low", 2, 0, 0),)),)), ("apart", 0, 1, TABLE + TABLE),
                       ("apart", 0, 1, ((YES, 0, ()),)), ("apart", 0, 1, TABLE + ((YES, 0, ()),))):
            self.assertEqual(bad(put(2, 4, ("low", 0), reason)), 2, reason)

    def test_a_pair_about_which_there_is_a_complaint(self):
        house = House(low(Rule(p("T")), Rule(p(A)), Rule(YES)))
        for reason in (("beneath",), ("above",), ("apart", 0, 0, TABLE)):
            self.assertEqual(raised(BadPaper, check_look, house, "low", ((1, ("low", 0), reason),)).index, 0)

    def test_values_that_are_deep(self):
        deep = A
        for _ in range(5000):
            deep = f(deep)
        for entry in ((deep, ("low", 0), ("beneath",)), (4, deep, ("beneath",)), (4, ("low", deep), ("beneath",)),
                      (4, ("low", 0), deep), (4, ("low", 0), ("apart", deep, 0, TABLE)), (4, ("low", 0), (deep,)),
                      (4, ("low", 0), ("apart", 0, 1, deep)), (4, ("low", 0), ("apart", 0, 1, ((p(deep), 0, ()),))), deep):
            papers = put(2, *entry) if len(entry) == 3 else PAPERS[:2] + (entry,)
            try:
                check_look(HOUSE, "low", papers)
                self.fail()
            except BadPaper as error:
                self.assertEqual(error.index, 2)

    def test_changed_papers(self):
        source, wrong = random.Random(9), Counter()
        for _ in range(400):
            one = random_looked(source, 0, source.choice([6, 12]))
            house = House(one, random_seeing(source, one, functions=0))
            for name in house.names:
                if wrong_words(house, name) or wrong_forms(house, name):
                    continue
                word, papers = look(house, name)
                if word == "refused" or not papers:
                    continue
                pool = [*PLAIN_VALUES, ("beneath",), ("above",), "apart", 0, 1, 2, *papers, *[one[1] for one in papers],
                        *[one[2] for one in papers]]
                for other in random_papers(source, papers, pool, changed):
                    found = wrong_index(check_look, house, name, other)
                    self.assertEqual(found, slow_look_check(house, name, other), other)
                    wrong[found] += 1
        self.assertGreater(len(wrong), 4)


if __name__ == "__main__":
    unittest.main()
