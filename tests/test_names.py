import unittest

from helping import PLAIN_VALUES
from nevermet.names import is_member_word, is_name, is_variable, is_word
from nevermet.packages import Package
from nevermet.rules import Rule

NAMES = ("a", "z", "ab", "zebra", "abcdefgh", "zzzzzzzz", "selfs", "heads", "sel", "hea", "rule", "if", "head" "er")
NO_NAMES = ("", "abcdefghi", "a" * 4000, "self", "head", "A", "aB", "Ab", "a1", "1a", "a_b", "a-b", "a b", " a", "a ",
            "a\n", "\na", "\n", "a.b", ".", "a.", "'", "`", "{", "a{", "`a", "@", "[")
WORDS = ("a.b", "base.list", "abcdefgh.abcdefgh", "selfs.heads", "a.a", "z.z")
NO_WORDS = ("", ".", "a", "a.", ".a", "a..b", "a.b.c", "a.b.", ".a.b", "self.a", "a.self", "head.a", "a.head",
            "abcdefghi.a", "a.abcdefghi", "A.b", "a.B", "a.b\n", "\na.b", "a .b", "a. b", "a,b", "a.b1", "a-b", "T")
VARIABLES = ("A", "Z", "T", "T0", "T9", "V00", "V12", "Z999", "A000")
NO_VARIABLES = ("", "a", "t", "T0000", "T1234", "TT", "Ta", "0", "0T", "T ", " T", "T\n", "\nT", "T1\n", "T-1", "T1a",
                "@", "[", "T/", "T:", "T1.", "T.U", "T" * 4000)


class Names(unittest.TestCase):
    def see(self, told, right, wrong):
        for thing in right:
            self.assertIs(told(thing), True, thing)
        for thing in wrong:
            self.assertIs(told(thing), False, thing)

    def test_names(self):
        self.see(is_name, NAMES, NO_NAMES)
        self.see(is_name, (), WORDS + VARIABLES)

    def test_words(self):
        self.see(is_word, WORDS, NO_WORDS)
        self.see(is_word, (), NAMES + VARIABLES)

    def test_variables(self):
        self.see(is_variable, VARIABLES, NO_VARIABLES)
        self.see(is_variable, (), NAMES + WORDS)

    def test_every_sign(self):
        for code in range(32, 127):
            sign = chr(code)
            self.assertIs(is_name(sign), sign.isalpha() and sign.islower())
            self.assertIs(is_name("a" + sign), sign.isalpha() and sign.islower())
            self.assertIs(is_word("a." + sign), sign.isalpha() and sign.islower())
            self.assertIs(is_variable(sign), sign.isalpha() and sign.isupper())
            self.assertIs(is_variable("T" + sign), sign.isdigit())

    def test_other_values(self):
        others = [thing for thing in PLAIN_VALUES if not isinstance(thing, str)]
        others += [Rule(("a.b", "T")), Package("a"), ["a"], ("a",), ("T",), {"T": "T"}, ("a.b",)]
        for told in (is_name, is_word, is_variable, is_member_word):
            self.see(told, (), others)

    def test_member_words(self):
        self.see(is_member_word, ("a.b.c", "base.iter.item"), WORDS + NAMES + ("a.b.c.d", "a.b.self", "self.a.b"))

    def test_by_name(self):
        self.assertEqual([is_name(thing="a"), is_word(thing="a.b"), is_variable(thing="T")], [True, True, True])


if __name__ == "__main__":
    unittest.main()
