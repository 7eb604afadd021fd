import unittest

from helping import FULL, INT, NIL, RICH_TEXT, base, listed, pair, rich, shop, tower, triple
from nevermet.functions import Function
from nevermet.houses import House
from nevermet.packages import Package
from nevermet.rules import Rule, SoftRule
from nevermet.texts import function_text, package_text, rule_text, table, term_text

BASE_TEXT = ("package base 1\nsort int 0\nsort list 1\ntrait show 1\nrule base.show(base.int)\n"
             "rule base.show(base.list(T)) if base.show(T)")


class Terms(unittest.TestCase):
    def test_terms(self):
        for term, text in (("T", "T"), ("V12", "V12"), (INT, "base.int"), (pair("T", INT), "base.pair(T, base.int)"),
                           (triple(listed("A"), pair("B", NIL), "C"),
                            "base.triple(base.list(A), base.pair(B, base.nil), C)"),
                           (listed(listed(listed("T"))), "base.list(base.list(base.list(T)))")):
            self.assertEqual(term_text(term), text)
        self.assertEqual(term_text(term="T"), "T")
        self.assertEqual(term_text(FULL).count("("), 13)

    def test_questions_and_members(self):
        self.assertEqual(term_text(("base.eq", "A", listed("B"))), "base.eq(A, base.list(B))")
        self.assertEqual(term_text(("base.iter.item", ("base.iter.key", "T"), INT)),
                         "base.iter.item(base.iter.key(T), base.int)")

    def test_any_size(self):
        self.assertEqual(term_text(tower(20000, "T")), "base.list(" * 20000 + "T" + ")" * 20000)


class Rules(unittest.TestCase):
    def test_rules(self):
        self.assertEqual(rule_text(Rule(("base.show", INT))), "rule base.show(base.int)")
        self.assertEqual(rule_text(SoftRule(("base.show", "T"))), "soft rule base.show(T)")
        self.assertEqual(rule_text(Rule(("a.b", pair("T", "U")), ("a.c", "T"), ("a.d", "U", "T"))),
                         "rule a.b(base.pair(T, U)) if a.c(T), a.d(U, T)")
        self.assertEqual(rule_text(Rule(("a.b", "T"), zebra="T", ant=INT, item=("a.b.ant", "T"))),
                         "rule a.b(T) with ant = base.int, item = a.b.ant(T), zebra = T")
        self.assertEqual(rule_text(rule=SoftRule(("a.b", "T"), ("a.c", "T"), item="T")),
                         "soft rule a.b(T) if a.c(T) with item = T")


class Functions(unittest.TestCase):
    def test_functions(self):
        want, ask, call = ("a.b", "T"), ("ask", ("a.c", "T", INT)), ("call", "b.f")
        self.assertEqual(function_text(Function("f")), "function f")
        self.assertEqual(function_text(Function("f", "T", "U0", "V")), "function f(T, U0, V)")
        self.assertEqual(function_text(Function("f", "T", wants=[want])), "function f(T) wants a.b(T)")
        self.assertEqual(function_text(Function("f", body=[call])), "function f does call b.f")
        self.assertEqual(function_text(Function("f", "T", body=[ask, (*call, "T", listed("T"))])),
                         "function f(T) does ask a.c(T, base.int), call b.f(T, base.list(T))")
        self.assertEqual(function_text(function=Function("f", "T", wants=[want, ("a.d", INT)], body=[call, ask])),
                         "function f(T) wants a.b(T), a.d(base.int) does call b.f, ask a.c(T, base.int)")


class Packages(unittest.TestCase):
    def test_packages(self):
        self.assertEqual(package_text(Package("a")), "package a 1")
        self.assertEqual(package_text(Package("a", "c", "b", edition=999)), "package a 999 needs b c")
        self.assertEqual(package_text(package=base()), BASE_TEXT)
        self.assertEqual(package_text(rich()), RICH_TEXT)
        self.assertEqual(str(rich()), RICH_TEXT)
        self.assertEqual(str(base()), BASE_TEXT)

    def test_traits(self):
        traits = [("a", 1, False, ()), ("b", 2, True, ()), ("c", 3, False, ("x",)), ("d", 1, False, ("x", "y", "z"))]
        self.assertEqual(package_text(Package("p", traits=traits)),
                         "package p 1\ntrait a 1\nmark b 2\ntrait c 3 members x\ntrait d 1 members x y z")


class Tables(unittest.TestCase):
    def test_table(self):
        self.assertEqual(table(House()), "")
        self.assertEqual(table(House(base())), "base           1      2      1      2      0")
        self.assertEqual(table(house=House(rich(), shop(), base())),
                         "base           1      2      1      2      0\n"
                         "rich           7      3      3      4      2\n"
                         "shop           1      1      0      1      0")
        most = Package("abcdefgh", edition=999, sorts=[("s" + letter, 0) for letter in "abcdefghijkl"],
                       rules=[Rule(("a.b", "T"))] * 30, functions=[Function("f")])
        self.assertEqual(table(House(most)), "abcdefgh     999     12      0     30      1")


if __name__ == "__main__":
    unittest.main()
