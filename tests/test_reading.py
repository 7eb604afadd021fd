"""Package.read: only texts that are written so are right, and the first line that is not is told."""

import random
import unittest

from helping import FULL, OVERFULL, PLAIN_VALUES, RICH_TEXT, base, raised, rich, shop, tower
from nevermet.errors import InvalidText, NeverError
from nevermet.packages import Package
from nevermet.texts import term_text


def line_of(text):
    return raised(InvalidText, Package.read, text).line


def behind(*lines):
    """The line that is told of a text with these lines behind a right first one."""
    return line_of("\n".join(["package a 1 needs b", *lines]))


class Right(unittest.TestCase):
    def test_what_is_written(self):
        for package in (base(), shop(), rich(), Package("a"), Package("a", "b", "c", edition=999), base().later("x")):
            self.assertEqual(Package.read(str(package)), package)
            self.assertEqual(Package.read(text=str(package)), package)
        self.assertEqual(Package.read(RICH_TEXT), rich())
        self.assertIsInstance(Package.read("package a 1"), Package)

    def test_words_of_the_form_are_names(self):
        text = "\n".join([
            "package needs 1 needs package rule", "sort sort 0", "sort members 1", "trait with 2 members if members with",
            "mark soft 1", "rule needs.with(T, needs.sort) if rule.if(T), needs.with(T, T) with if = T, members = needs.sort,"
            " with = needs.with.if(T, T)", "soft rule soft.rule(needs.members(T))", "function does(T, U) wants wants.wants(T)"
            " does ask ask.call(U), call call.ask(T), call does.does", "function call does call ask.ask",
            "function wants wants wants.wants(needs.sort)"])
        self.assertEqual(str(Package.read(text)), text)

    def test_every_beginning_is_right(self):
        lines = RICH_TEXT.split("\n")
        for many in range(1, len(lines) + 1):
            text = "\n".join(lines[:many])
            self.assertEqual(str(Package.read(text)), text)

    def test_random_packages(self):
        source = random.Random(2)
        for _ in range(100):
            package = rich()
            found = Package("rich", *source.sample(["base", "shop", "a", "z"], 2), edition=source.randrange(1, 1000),
                            sorts=source.sample(package.sorts, 2), traits=source.sample(package.traits, 2),
                            rules=source.sample(package.rules, 3), functions=package.functions)
            self.assertEqual(Package.read(str(found)), found)


class Wrong(unittest.TestCase):
    def test_no_strings(self):
        for thing in (*PLAIN_VALUES, base(), ["package a 1"]):
            if not isinstance(thing, str):
                self.assertEqual(line_of(thing), 0)
        self.assertIsInstance(raised(InvalidText, Package.read, None), NeverError)

    def test_first_line(self):
        for text in ("", " ", "\n", "package", "package a", "package a ", "package a 0", "package a 1000", "package a 01",
                     "package a 001", "package a -1", "package a +1", "package a 1 ", " package a 1", "package  a 1",
                     "package a  1", "package a x", "package A 1", "package self 1", "package head 1", "package a.b 1",
                     "package abcdefghi 1", "Package a 1", "packages a 1", "a 1", "package 1", "package a 1 needs",
                     "package a 1 needs ", "package a 1 needs  b", "package a 1 needs b ", "package a 1 needs b  c",
                     "package a 1 needs c b", "package a 1 needs b b", "package a 1 needs a", "package a 1 needs b, c",
                     "package a 1 needs B", "package a 1 needs self", "package a 1 need b", "package a 1 b", "sort a 1",
                     "package a 1 needs b c d e f g h i j", "package a 1needs b", "package a 1\tneeds b", "package a 1\r",
                     "package a 9" + "9" * 3990, "package a " + "0" * 5000 + "1", "package a 1 sort b 1"):
            self.assertEqual(line_of(text), 0, text)
            self.assertEqual(line_of(text + "\nsort x 0"), 0, text)
        self.assertEqual(Package.read("package a 1 needs b c d e f g h i").needs, tuple("bcdefghi"))
        self.assertEqual(Package.read("package a 999").edition, 999)

    def test_empty_lines(self):
        self.assertEqual(line_of("package a 1\n"), 1)
        self.assertEqual(line_of("package a 1\nsort x 0\n"), 2)
        self.assertEqual(line_of("package a 1\n\nsort x 0"), 1)
        self.assertEqual(line_of("\npackage a 1"), 0)
        self.assertEqual(line_of("package a 1\nsort x 0\n "), 2)

    def see_lines(self, right, wrong):
        for line in right:
            text = "package a 1\n" + line
            self.assertEqual(str(Package.read(text)), text)
        for line in wrong:
            self.assertEqual(behind(line), 1, line)
            self.assertEqual(behind("sort zz 0", "trait zzz 1", line, "nothing"), 3, line)

    def test_sorts(self):
        self.see_lines(["sort x 0", "sort x 3"], [])
        for line in ("sort", "sort x", "sort x ", "sort x 4", "sort x 00", "sort x 01", "sort x -1", "sort x 1 ", "sort x 1 2",
                     "sort  x 1", "sort x  1", " sort x 1", "sort X 1", "sort self 1", "sort a.x 1", "sort x one", "sorts x 1",
                     "Sort x 1", "sort x 1 members y", "sort abcdefghi 1", "sort x 1000", "x 1", "package b 1", "sort x 1.",
                     "sort x(1)", "sort(x) 1"):
            self.assertEqual(behind(line), 1, line)
            self.assertEqual(behind("sort y 0", line, "sort z 0"), 2, line)

    def test_traits(self):
        self.see_lines(["trait x 1", "trait x 3", "mark x 1", "mark x 3", "trait x 1 members y", "trait x 2 members u v w"],
                       ["trait", "trait x", "trait x 0", "trait x 4", "trait x 01", "trait x 1 ", "trait x  1", "trait X 1",
                        "trait head 1", "trait x 1 members", "trait x 1 members ", "trait x 1 members  y",
                        "trait x 1 members y ", "trait x 1 members w v", "trait x 1 members v v",
                        "trait x 1 members t u v w", "trait x 1 members Y", "trait x 1 members self", "trait x 1 y",
                        "trait x 1 member y", "trait x 1 members u, v", "mark x 1 members y", "mark x 0", "mark x 4",
                        "mark x", "marks x 1", "Trait x 1", "trait x 1 with y"])

    def test_rules(self):
        ask = "if a.c(T)"
        right = ["rule a.b(T)", "soft rule a.b(T)", f"rule a.b(T) {ask}", f"rule a.b(T) {ask}, a.c(T), a.c(T), a.c(T)",
                 "rule a.b(T) with x = T", "rule a.b(T, U) if a.c(U) with x = T, y = c.d.x(U)",
                 f"rule a.b({term_text(FULL)})", f"rule a.b({term_text(tower(5))})"]
        wrong = ["rule", "rule ", "soft", "soft rule", "soft rule ", "rule T", "rule a.b", "rule a.b()", "rule b(T)",
                 "rule a.b(T) ", " rule a.b(T)", "rule  a.b(T)", "soft  rule a.b(T)", "rule soft a.b(T)", "soft a.b(T)",
                 "hard rule a.b(T)", "Rule a.b(T)", "rulea.b(T)", "rule a.b(T) if", "rule a.b(T) if ", f"rule a.b(T)  {ask}",
                 f"rule a.b(T) {ask} ", f"rule a.b(T) {ask},", f"rule a.b(T) {ask}, ", f"rule a.b(T) {ask},a.c(T)",
                 f"rule a.b(T) {ask}  , a.c(T)", f"rule a.b(T) {ask} a.c(T)", f"rule a.b(T) {ask} {ask}",
                 "rule a.b(T) if  a.c(T)", "rule a.b(T) if T", "rule a.b(T) if a.c", "rule a.b(T) if a.c(U)",
                 "rule a.b(T) if a.c(a.d(T))", f"rule a.b(T) {ask}, a.c(T), a.c(T), a.c(T), a.c(T)",
                 "rule a.b(T), a.b(U)", "rule a.b(T) with", "rule a.b(T) with ", "rule a.b(T) with x", "rule a.b(T) with x =",
                 "rule a.b(T) with x = ", "rule a.b(T) with x=T", "rule a.b(T) with x = T ", "rule a.b(T) with x = T,",
                 "rule a.b(T) with x = T, ", "rule a.b(T) with x  = T", "rule a.b(T) with x = T,y = T",
                 "rule a.b(T) with y = T, x = T", "rule a.b(T) with x = T, x = T", "rule a.b(T) with x = U",
                 "rule a.b(T) with X = T", "rule a.b(T) with self = T", "rule a.b(T) with head = T",
                 "rule a.b(T) with x.y = T", "rule a.b(T) with abcdefghi = T", "rule a.b(T) with  = T",
                 "rule a.b(T) with x = t", "rule a.b(T) with x = c.d.x", f"rule a.b(T) with x = T {ask}",
                 f"rule a.b(T) with x = T, {ask}", "rule a.b(T) with x = T with y = T", "rule c.d.x(T)",
                 "rule a.b(T) if c.d.x(T)", "rule a.b(A, B, C, D)", f"rule a.b({term_text(OVERFULL)})",
                 f"rule a.b({term_text(tower(6))})", "rule a.b(T", "rule a.b(T))", "rule a.b((T))", "rule (a.b(T))",
                 "rule a.b(T) when a.c(T)", "rule a.b(T)\t", "rule a.b(T) if a.c(T) with", "rule a.b(T,U)",
                 "rule " + "a.b(" * 3000 + "T" + ")" * 3000, "rule a.b(T) if " + "a.b(" * 3000 + "T" + ")" * 3000,
                 "rule a.b(T) with x = " + "a.b(" * 3000 + "T" + ")" * 3000, "rule " + "(" * 100000]
        self.see_lines(right, wrong)

    def test_functions(self):
        right = ["function f", "function f(T)", "function f(T, U, V)", "function f wants a.b(c.d)",
                 "function f(T) wants a.b(T), a.c(T)", "function f does ask a.b(c.d)", "function f does call a.g",
                 "function f(T) does call a.g(T), call a.g, ask a.b(T)", "function f(T) wants a.b(T) does ask a.b(T)",
                 "function f(A, B, C) does call a.g(A, B, C)", "function f does " + ", ".join(["call a.g"] * 8)]
        wrong = ["function", "function ", "function f ", "function  f", " function f", "functions f", "function f()",
                 "function f( T)", "function f(T )", "function f (T)", "function f(T,U)", "function f(T, T)",
                 "function f(t)", "function f(c.d)", "function f(a.b(T))", "function f(A, B, C, D)", "function T",
                 "function a.f", "function self", "function F", "function abcdefghi", "function f wants", "function f wants ",
                 "function f wants a.b", "function f wants T", "function f wants a.b(T)", "function f(T) wants a.b(T),",
                 "function f(T) wants a.b(T), a.b(T)", "function f(T) wants a.b(T) wants a.c(T)", "function f does",
                 "function f does ", "function f does ask", "function f does ask ", "function f does ask a.b",
                 "function f does ask a.b(T)", "function f does call", "function f does call ", "function f does call g",
                 "function f does call T", "function f does call a.g()", "function f(T) does call a.g(T, T, T, T)",
                 "function f does call a.g,", "function f does call a.g, ", "function f does call a.g,call a.g",
                 "function f does a.g", "function f does call  a.g", "function f does  call a.g",
                 "function f does call a.g does call a.g", "function f(T) does ask a.b(T) wants a.b(T)",
                 "function f does tell a.g", "function f does Call a.g", "function f does call a.g ", "function f call a.g",
                 "function f(T)wants a.b(T)", "function f does " + ", ".join(["call a.g"] * 9),
                 "function f wants " + ", ".join(f"a.b(c.{x})" for x in "abcdefg"), "function f(T) does ask c.d.x(T)",
                 "function f does call c.d.x", "function f does askx a.b(c.d)", "function f does ask.x(c.d)",
                 "function f" + "(" * 100000, "function f does call " + "a.b(" * 3000 + "c.d" + ")" * 3000]
        self.see_lines(right, wrong)

    def test_order_of_the_kinds(self):
        sort, trait, mark, rule, function = "sort s 0", "trait t 1", "mark m 1", "rule a.b(T)", "function f"
        self.assertEqual(behind(trait, sort), 2)
        self.assertEqual(behind(mark, sort), 2)
        self.assertEqual(behind(rule, sort), 2)
        self.assertEqual(behind(function, sort), 2)
        self.assertEqual(behind(sort, rule, trait), 3)
        self.assertEqual(behind(rule, mark), 2)
        self.assertEqual(behind(function, rule), 2)
        self.assertEqual(behind(sort, function, "soft " + rule), 3)
        self.assertEqual(behind("package a 1"), 1)
        text = "\n".join(["package a 1", mark, trait, "mark n 1", rule, "soft " + rule, rule, function])
        self.assertEqual(str(Package.read(text)), text)

    def test_one_too_many(self):
        names = [one + other for one in "abc" for other in "abcdefghijk"]
        for form, most in (("sort {} 0", 12), ("trait {} 1", 8), ("rule a.{}(T)", 30), ("function {}", 8)):
            lines = [form.format(name) for name in names[:most]]
            self.assertEqual(len(str(Package.read("\n".join(["package a 1", *lines]))).split("\n")), most + 1)
            self.assertEqual(behind(*lines, form.format("zz")), most + 1)
            self.assertEqual(behind(*lines, form.format("zz"), form.format("zy"), "wrong"), most + 1)
        self.assertEqual(behind(*[f"mark {name} 1" for name in names[:4]], *[f"trait {name} 1" for name in names[4:9]]), 9)

    def test_two_things_with_one_name(self):
        for lines in (["sort s 0", "sort s 1"], ["sort s 0", "trait s 1"], ["sort s 0", "mark s 1"],
                      ["trait s 1", "mark s 1"], ["trait s 1", "function s"], ["sort s 0", "function s(T)"],
                      ["function s", "function s(T)"]):
            self.assertEqual(behind(*lines), 2, lines)
            self.assertEqual(behind(*lines, "wrong"), 2, lines)
        self.assertEqual(str(Package.read("package a 1\nsort a 0\nrule a.b(T)\nrule a.b(T)")).count("\n"), 3)

    def test_the_first_wrong_line_is_told(self):
        lines = RICH_TEXT.split("\n")
        for at in range(len(lines)):
            for wrong in (lines[at] + " ", " " + lines[at], lines[at].replace(" ", "  ", 1), "", "x", lines[at][:-1] + "\t"):
                changed = [*lines[:at], wrong, *lines[at + 1:]]
                self.assertEqual(line_of("\n".join(changed)), at, wrong)
                self.assertEqual(line_of("\n".join([*changed, "wrong"])), at, wrong)

    def test_one_sign_changed(self):
        source = random.Random(4)
        right = 0
        for _ in range(4000):
            at = source.randrange(len(RICH_TEXT))
            sign = source.choice("aTz0 1.,()=\n")
            text = source.choice([RICH_TEXT[:at] + sign + RICH_TEXT[at:], RICH_TEXT[:at] + RICH_TEXT[at + 1:],
                                  RICH_TEXT[:at] + sign + RICH_TEXT[at + 1:]])
            try:
                found = Package.read(text)
            except InvalidText as error:
                lines = text.split("\n")
                self.assertLess(error.line, len(lines))
                if error.line > 0:
                    beginning = "\n".join(lines[:error.line])
                    self.assertEqual(str(Package.read(beginning)), beginning)
                continue
            right += 1
            self.assertEqual(str(found), text)
        self.assertGreater(right, 100)

    def test_long_texts(self):
        self.assertEqual(line_of("package a 1\n" + "\n" * 100000), 1)
        self.assertEqual(line_of("a" * 1000000), 0)
        self.assertEqual(line_of("package a 1\nrule " + "a" * 1000000), 1)
        self.assertEqual(line_of("package a 1\nrule a.b(" + "T, " * 200000 + "T)"), 1)
        self.assertEqual(line_of("package a 1\nsort x " + "1" * 10000), 1)


if __name__ == "__main__":
    unittest.main()
