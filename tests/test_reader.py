"""Texts that are read: point 28."""

import random
import unittest

from helping import FULL, INT, OVERFULL, PLAIN_VALUES, RICH_TEXT, base, listed, pair, raised, random_term, rich, shop, tower, triple
from nevermet.errors import InvalidText
from nevermet.functions import Function
from nevermet.packages import Package
from nevermet.reader import read_function, read_package, read_question, read_rule, read_term
from nevermet.rules import Rule, SoftRule
from nevermet.texts import function_text, rule_text, term_text

READERS = (read_term, read_question, read_rule, read_function, read_package)
T, U = "T", "U"


def wrong(reader, text):
    return raised(InvalidText, reader, text).line


class Kinds(unittest.TestCase):
    def test_what_is_no_text(self):
        for reader in READERS:
            for thing in (*PLAIN_VALUES, base(), ["package a 1"], ("base.int",), b"T", 10 ** 60):
                if not isinstance(thing, str):
                    self.assertEqual(wrong(reader, thing), 0)
            for text in ("", " ", "\n", "t", "(", ")", "()", ",", ".", "$", "T T", "\n" * 50, "package", "rule",
                         "function", "soft rule", "rule ", "function "):
                self.assertEqual(wrong(reader, text), 0)

    def test_deep_and_long(self):
        deep = "base.list(" * 5000
        for text in (deep, deep + "T" + ")" * 5000, "(" * 9000, ")" * 9000, deep + ")" * 5000, "T" * 9000, "T, " * 3000):
            for reader in READERS:
                self.assertEqual(wrong(reader, text), 0)
                for start in ("rule ", "soft rule ", "function ", "package a 1 needs ", "rule base.show(T) if ",
                              "rule base.show(T) with a = ", "function f wants ", "function f does ask "):
                    self.assertEqual(wrong(reader, start + text), 0)
        self.assertEqual(wrong(read_package, "package a 1\nrule " + deep), 1)
        self.assertEqual(wrong(read_package, "package a " + "9" * 5000), 0)
        self.assertEqual(wrong(read_package, "package a 1\nsort b " + "0" * 5000), 1)
        self.assertEqual(wrong(read_package, "package a 1\nsort b " + "1" * 9000), 1)
        self.assertEqual(wrong(read_term, "T" + "1" * 5000), 0)

    def test_names_of_arguments(self):
        self.assertEqual(read_term(text="T"), "T")
        self.assertEqual(read_question(text="a.b(T)"), ("a.b", "T"))
        self.assertEqual(read_rule(text="rule a.b(T)"), Rule(("a.b", T)))
        self.assertEqual(read_function(text="function f"), Function("f"))
        self.assertEqual(read_package(text="package a 1"), Package("a"))


class Terms(unittest.TestCase):
    def test_what_is_written(self):
        source = random.Random(81)
        for term in [T, "Z999", INT, listed(T), pair(T, INT), triple(T, U, T), FULL, tower(5)] + [
                random_term(source, [T, U, "A1"], 5) for _ in range(200)]:
            self.assertEqual(read_term(term_text(term)), term)

    def test_limits(self):
        self.assertEqual(wrong(read_term, term_text(OVERFULL)), 0)
        self.assertEqual(wrong(read_term, term_text(tower(6))), 0)
        self.assertEqual(read_term(term_text(tower(5))), tower(5))
        for text in ("T1000", "TT", "a.b(c.d, c.d, c.d, c.d)", "abcdefghi.b", "self.b", "a.head", "a.b.c(T)", "a.b.c"):
            self.assertEqual(wrong(read_term, text), 0)

    def test_spaces_and_signs(self):
        for text in (" T", "T ", "a.b( T)", "a.b(T )", "a.b (T)", "a.b(T,U)", "a.b(T,  U)", "a.b(T , U)", "a.b()", "a.b(T", "a.b(T))",
                     "a.b(T),", "a.b(T, )", "a.b(, T)", "a.b(T)(U)", "a.b((T))", "T(U)", "a.b(T)\n", "\na.b(T)", "a..b", ".b", "a.",
                     "a.B", "A.b", "a.b(T; U)", "a.b[T]", "a.b(T,\nU)", "T, U", "a.b c.d"):
            self.assertEqual(wrong(read_term, text), 0, text)
            self.assertEqual(wrong(read_question, text), 0, text)

    def test_questions(self):
        for question in (("a.b", T), ("a.b", INT, FULL), ("a.b", T, U, pair(T, T)), ("a.b", FULL, FULL, FULL)):
            self.assertEqual(read_question(term_text(question)), question)
        for text in ("T", "a.b", "a.b.c(T)", "a.b(T, T, T, T)", f"a.b({term_text(OVERFULL)})", "a.b(c.d.e(T))"):
            self.assertEqual(wrong(read_question, text), 0, text)


class Lines(unittest.TestCase):
    def test_rules(self):
        rules = [Rule(("a.b", T)), SoftRule(("a.b", T)), Rule(("a.b", listed(T), INT), ("a.c", T), ("a.d", INT, listed(T))),
                 SoftRule(("a.b", T, U), ("a.b", U, T), item=U, key=pair(T, ("a.b.item", U, T))),
                 Rule(("a.b", FULL), *[("a.b", INT)] * 4), Rule(("a.b", T), a=T, b=T, c=INT, d=FULL),
                 Rule.of(("a.b", T), [], {"with": T, "if": ("a.b.soft", T)})]
        for rule in rules:
            self.assertEqual(read_rule(rule_text(rule)), rule)
            self.assertEqual(read_rule(rule_text(rule)).soft, rule.soft)

    def test_wrong_rules(self):
        for text in ("a.b(T)", "rule T", "rule a.b", "rule  a.b(T)", "rule a.b(T) ", " rule a.b(T)", "Rule a.b(T)", "soft a.b(T)",
                     "softrule a.b(T)", "soft  rule a.b(T)", "rule soft a.b(T)", "rule a.b(T) if", "rule a.b(T) if ", "rule a.b(T) with",
                     "rule a.b(T) with ", "rule a.b(T) if a.b", "rule a.b(T) if T", "rule a.b(T) if a.b(U)",
                     "rule a.b(T) if a.b(base.list(T))", "rule a.b(T) with x", "rule a.b(T) with x = ", "rule a.b(T) with x=T",
                     "rule a.b(T) with x = T,y = T", "rule a.b(T) with y = T, x = T", "rule a.b(T) with x = T, x = T",
                     "rule a.b(T) with self = T", "rule a.b(T) with head = T", "rule a.b(T) with x = U",
                     "rule a.b(T) with x = T if a.b(T)", "rule a.b(T) if a.b(T) if a.b(T)", "rule a.b(T) if a.b(T), with x = T",
                     "rule a.b(T)\n", "rule a.b(T) if a.b(T)," + " a.b(T)," * 3 + " a.b(T)", "rule a.b(T)\nrule a.b(T)",
                     "rule a.b(T) with x = a.b.c", "rule a.b(T) with x = a.b.c(T, T, T, T)", "rule a.b.c(T)", "sort a 1"):
            self.assertEqual(wrong(read_rule, text), 0, text)

    def test_functions(self):
        want, step = ("a.b", T), ("ask", ("a.b", T))
        functions = [Function("f"), Function("f", T), Function("f", T, U, "W9"), Function("f", T, wants=[want]),
                     Function("f", T, body=[step, ("call", "a.c"), ("call", "a.d", T, INT, FULL), step]),
                     Function("f", T, U, wants=[want, ("a.b", U), ("a.e", T, U)], body=[step] * 8),
                     Function("ask", T, wants=[("ask.call", T)], body=[("call", "does.wants", T), ("ask", ("call.ask", T))])]
        for function in functions:
            self.assertEqual(read_function(function_text(function)), function)

    def test_wrong_functions(self):
        for text in ("function", "function f()", "function f(a.b)", "function f(T, T)", "function f(T,U)", "function f(A, B, C, D)",
                     "function f.g", "function F", "function f wants", "function f wants ", "function f wants a.b(T)",
                     "function f(T) wants a.b(T), a.b(T)", "function f(T) wants T", "function f(T) wants a.b", "function f does",
                     "function f does ask", "function f does ask ", "function f does ask a.b", "function f does tell a.b(base.int)",
                     "function f does call", "function f does call T", "function f does call a.b(c.d, c.d, c.d, c.d)",
                     "function f does call a.b()", "function f does ask a.b(T)", "function f(T) does ask a.b(T),ask a.b(T)",
                     "function f(T) does ask a.b(T) wants a.b(T)", "function f(T) does ask a.b(T), a.b(T)", "function f ",
                     " function f", "function  f", "function f\n", "function f(T) does " + ", ".join(["ask a.b(T)"] * 9),
                     "function f(T) wants " + ", ".join([f"a.b(T, c.{one})" for one in "abcdefg"]), "function self", "rule a.b(T)"):
            self.assertEqual(wrong(read_function, text), 0, text)


class Packages(unittest.TestCase):
    def test_what_is_written(self):
        for package in (base(), shop(), rich(), Package("a", *["n" + one for one in "abcdefgh"], edition=999)):
            self.assertEqual(read_package(str(package)), package)
        self.assertEqual(read_package(RICH_TEXT), rich())
        self.assertEqual(str(read_package(RICH_TEXT)), RICH_TEXT)

    def test_every_limit(self):
        letters = "abcdefghijklmnopqrstuvwxyz"
        full = Package("full", sorts=[("s" + one, 3) for one in letters[:12]],
                       traits=[("t" + one, 3, False, ("x", "y", "z")) for one in letters[:8]],
                       rules=[Rule(("full.ta", T, U, FULL), *[("full.ta", T, U, T)] * 4)] * 30,
                       functions=[Function("f" + one) for one in letters[:8]])
        self.assertEqual(read_package(str(full)), full)
        lines = str(full).split("\n")
        for at, line, more in ((13, "sort sz 0", 13), (21, "mark tz 1", 21), (51, "rule full.ta(T, T, T)", 51),
                               (59, "function fz", 59)):
            self.assertEqual(wrong(read_package, "\n".join([*lines[:at], line, *lines[at:]])), more)

    def test_the_first_wrong_line(self):
        lines = RICH_TEXT.split("\n")
        for at in range(len(lines) + 1):
            for line in ("", " ", "sort", "sort x", "sort x 4", "sort x 01", "sort x 1 ", "sort  x 1", "Sort x 1", "sorts x 1", "sort X 1",
                         "trait x 0", "trait x 4", "trait x 1 members", "trait x 1 members b a", "trait x 1 members a a",
                         "mark x 1 members a", "package rich", "rule rich.eq(A,B)", "sort x -1", "sort x +1", "sort x 1\r"):
                self.assertEqual(wrong(read_package, "\n".join([*lines[:at], line, *lines[at:]])), at, line)
        for at in range(1, len(lines)):
            self.assertEqual(wrong(read_package, "\n".join([*lines[:at], lines[at] + " ", *lines[at + 1:]])), at)
        self.assertEqual(wrong(read_package, RICH_TEXT + "\n"), len(lines))
        self.assertEqual(wrong(read_package, "\n" + RICH_TEXT), 0)

    def test_the_order_of_the_lines(self):
        start = "package a 1\n"
        for text, at in (("trait t 1\nsort s 0", 2), ("rule a.t(T)\ntrait t 1", 2), ("function f\nrule a.t(T)", 2),
                         ("function f\nsort s 0\nsort t 0", 2), ("mark m 1\ntrait t 1\nsort s 0", 3)):
            self.assertEqual(wrong(read_package, start + text), at)
        self.assertEqual(read_package(start + "mark m 1\ntrait t 1\nmark n 1\nsoft rule a.m(T)\nrule a.m(T)").traits,
                         (("m", 1, True, ()), ("t", 1, False, ()), ("n", 1, True, ())))

    def test_two_things_with_one_name(self):
        for text, at in (("sort s 0\nsort s 1", 2), ("sort s 0\ntrait s 1", 2), ("trait s 1\nsort t 0", 2),
                         ("sort s 0\ntrait t 1\nfunction s", 3), ("function s\nfunction s", 2), ("trait s 1\nmark s 1", 2)):
            self.assertEqual(wrong(read_package, "package a 1\n" + text), at)
        self.assertEqual(read_package("package a 1\nsort a 0\ntrait b 1\nfunction c").words, ("a.a", "a.b", "a.c"))

    def test_the_first_line(self):
        for text in ("package", "package a", "package a ", "package a 0", "package a 1000", "package a 01", "package A 1", "package a.b 1",
                     "package a 1 needs", "package a 1 needs ", "package a 1 needs b a", "package a 1 needs a", "package a 1 needs b b",
                     "package a 1 needs  b", "package a 1 b", "package a 1  needs b", "Package a 1", "package a 1.0", "package a one",
                     "package a 1 needs " + " ".join("bcdefghij"), "package self 1", "package a 1 needs head", "sort a 1"):
            self.assertEqual(wrong(read_package, text), 0, text)
            self.assertEqual(wrong(read_package, text + "\nsort"), 0, text)
        self.assertEqual(read_package("package a 1 needs " + " ".join("bcdefghi")).needs, tuple("bcdefghi"))
        self.assertEqual(read_package("package needs 1 needs package").needs, ("package",))

    def test_lines_that_are_right_by_themselves(self):
        """Words that nobody declares are right, and what is in place or let by is not looked at."""
        text = "package a 1\nrule no.no(no.no(T)) if no.what(T) with x = no.no.no(T)\nfunction f(T) wants a.f(T) does call a.f"
        self.assertEqual(str(read_package(text)), text)


if __name__ == "__main__":
    unittest.main()
