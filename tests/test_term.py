import random
import unittest

from helping import (FULL, INT, NIL, OVERFULL, PLAIN_VALUES, listed, pair, raised, random_term, tower, tree, triple)
from nevermet.errors import InvalidTerm, InvalidText, NeverError
from nevermet.packages import Package
from nevermet.rules import Rule
from nevermet.term import Term
from nevermet.terms import is_term
from nevermet.texts import term_text

OTHERS = (None, True, 0, "T", "base.int", INT, (), [], {}, Rule(("a.b", "T")), Package("a"))


class Made(unittest.TestCase):
    def test_of_terms(self):
        for term in ("T", "V12", INT, listed("T"), triple("A", INT, listed("A")), FULL, tower(5)):
            self.assertEqual(Term(term).shape, term)
        self.assertEqual(Term(term=INT).shape, INT)

    def test_of_other_values(self):
        for thing in (*PLAIN_VALUES, OVERFULL, tower(6), ["base.list", "T"], Term(INT), Rule(("a.b", "T"))):
            if is_term(thing):
                continue
            error = raised(InvalidTerm, Term, thing)
            self.assertIs(error.thing, thing)
            self.assertIsInstance(error, NeverError)

    def test_most(self):
        self.assertEqual(Term.MOST, 40)
        self.assertEqual(Term(FULL).MOST, Term(FULL).size)

    def test_properties(self):
        one = Term(triple("U", listed("T"), "U"))
        self.assertEqual((one.shape, one.size, one.variables), (triple("U", listed("T"), "U"), 5, ("U", "T")))
        self.assertEqual((Term(INT).size, Term(INT).variables, Term("T").variables), (1, (), ("T",)))
        with self.assertRaises(AttributeError):
            one.shape = INT


class Read(unittest.TestCase):
    def test_what_is_written(self):
        for term, text in (("T", "T"), ("V999", "V999"), (INT, "base.int"), (listed("T"), "base.list(T)"),
                           (pair("T", INT), "base.pair(T, base.int)"),
                           (triple(listed(listed(INT)), "A0", NIL),
                            "base.triple(base.list(base.list(base.int)), A0, base.nil)")):
            self.assertEqual(Term.read(text).shape, term)
            self.assertEqual(Term.read(text=text), Term(term))
            self.assertEqual(str(Term(term)), text)
            self.assertEqual(repr(Term(term)), f"Term({text})")

    def test_at_the_limits(self):
        for term in (FULL, tower(5), tower(5, "T"), tree(4, "Z999")):
            self.assertEqual(Term.read(term_text(term)), Term(term))
        for term in (OVERFULL, tower(6), tower(6, "T"), tree(5), ("a.b", "A", "B", "C", "D")):
            self.assertEqual(raised(InvalidText, Term.read, term_text(term)).line, 0)

    def test_wrong_texts(self):
        for text in ("", " ", "\n", "t", "int", "base.", ".int", "base.int.x", "base.int ", " base.int", "base.int\n",
                     "\nbase.int", "T ", " T", "TT", "T0000", "base.list()", "base.list(", "base.list)", "base.list(T",
                     "base.list(T))", "base.list (T)", "base.list( T)", "base.list(T )", "base.list(T) ",
                     "base.pair(T,U)", "base.pair(T , U)", "base.pair(T,  U)", "base.pair(T U)", "base.pair(T; U)",
                     "base.pair(, U)", "base.pair(T, )", "base.pair(T, U,)", "base.pair(T, U, )", "base.pair,(T, U)",
                     "base.pair(T, U", "(base.int)", "()", "(", ")", ",", "T(U)", "base.list[T]", "base.list{T}",
                     "base.list((T))", "base.list(T)(U)", "base.list(T)base.int", "base.list(t)", "base.List(T)",
                     "base.self", "head.int", "abcdefghi.int", "base.list(T),", "base.int, base.int", "base-int",
                     "base.iter.item(T)", "base.quad(A, B, C, D)", "'T'", "base.list(T\n)", "base.pair(T,\nU)"):
            self.assertEqual(raised(InvalidText, Term.read, text).line, 0, text)

    def test_one_sign_changed(self):
        text = "base.pair(T1, base.list(U))"
        right = 0
        for at in range(len(text) + 1):
            for sign in "aA1 .,()\n":
                for wrong in (text[:at] + sign + text[at:], text[:at] + sign + text[at + 1:], text[:at] + text[at + 1:]):
                    try:
                        found = Term.read(wrong)
                    except InvalidText:
                        continue
                    right += 1
                    self.assertEqual(str(found), wrong)
        self.assertGreater(right, 20)

    def test_deep_parentheses(self):
        for many in (7, 300, 2000, 100000):
            for text in ("base.list(" * many + "T" + ")" * many, "base.list(" * many, "(" * many, ")" * many,
                         "T" + ")" * many, "base.pair(T, " * many + "T" + ")" * many):
                self.assertEqual(raised(InvalidText, Term.read, text).line, 0)
        self.assertEqual(raised(InvalidText, Term.read, "T" * 100000).line, 0)
        self.assertEqual(raised(InvalidText, Term.read, "base.list(" + "T, " * 100000 + "T)").line, 0)

    def test_no_strings(self):
        for thing in (*PLAIN_VALUES, Term(INT), ["base.int"]):
            if not isinstance(thing, str):
                self.assertEqual(raised(InvalidText, Term.read, thing).line, 0)


class At(unittest.TestCase):
    def test_filled(self):
        one = Term(pair("T", "U"))
        self.assertEqual(one.at(), one)
        self.assertEqual(one.at(T=Term(INT)).shape, pair(INT, "U"))
        self.assertEqual(one.at(U=Term(INT), T=Term(listed("U"))).shape, pair(listed("U"), INT))
        self.assertEqual(one.at(T=Term("U"), U=Term("T")).shape, pair("U", "T"))
        self.assertEqual(one.at(Z=Term(INT), text=Term(INT)), one)
        self.assertEqual(one.shape, pair("T", "U"))
        self.assertEqual(Term("T").at(T=Term(FULL)).shape, FULL)
        self.assertIsInstance(one.at(T=Term(INT)), Term)

    def test_too_large(self):
        self.assertEqual(raised(InvalidTerm, Term(listed("T")).at, T=Term(FULL)).thing, listed(FULL))
        self.assertEqual(raised(InvalidTerm, Term(listed("T")).at, T=Term(tower(5))).thing, tower(6))
        self.assertEqual(Term(listed("T")).at(T=Term(tower(4))).shape, tower(5))
        self.assertEqual(Term(listed("T")).at(U=Term(FULL)).shape, listed("T"))

    def test_several_keys_of_one_size(self):
        one = Term(triple("A", "B", "C"))
        self.assertEqual(one.at(A=Term(tree(3)), B=Term(tree(3)), C=Term(tree(3))).shape, FULL)
        error = raised(InvalidTerm, one.at, A=Term(tree(3)), B=Term(tree(3)), C=Term(triple(INT, INT, FULL[1])))
        self.assertEqual(error.thing, triple(tree(3), tree(3), triple(INT, INT, tree(3))))


class Called(unittest.TestCase):
    def test_parts(self):
        one, a, b, c = Term(("base.any",)), Term("A"), Term(INT), Term(listed("C"))
        self.assertEqual(one(), one)
        self.assertEqual(one(a).shape, ("base.any", "A"))
        self.assertEqual(one(a, b).shape, ("base.any", "A", INT))
        self.assertEqual(one(a, b, c).shape, ("base.any", "A", INT, listed("C")))
        self.assertEqual(one(first=a, second=b, third=c), one(a, b, c))
        self.assertEqual(one(third=c, first=a, second=b), one(a, b, c))
        self.assertIsInstance(one(a), Term)
        self.assertEqual(one.shape, ("base.any",))

    def test_a_none_between(self):
        one, a, b = Term(("base.any",)), Term("A"), Term(INT)
        self.assertEqual(one(a, None, b), one(a))
        self.assertEqual(one(None, a, b), one)
        self.assertEqual(one(None, None, None), one)
        self.assertEqual(one(a, b, None), one(a, b))
        self.assertEqual(one(second=a), one)

    def test_no_constant(self):
        for term in ("T", listed("T"), listed(INT), FULL):
            self.assertEqual(raised(InvalidTerm, Term(term)).thing, term)
            self.assertEqual(raised(InvalidTerm, Term(term), Term(INT)).thing, term)
            self.assertEqual(raised(InvalidTerm, Term(term), Term(FULL)).thing, term)

    def test_too_large(self):
        self.assertEqual(raised(InvalidTerm, Term(("base.list",)), Term(FULL)).thing, listed(FULL))
        self.assertEqual(raised(InvalidTerm, Term(("base.list",)), Term(tower(5))).thing, tower(6))
        self.assertEqual(Term(("base.list",))(Term(tower(4))).shape, tower(5))
        self.assertEqual(Term(("base.triple",))(*[Term(tree(3))] * 3).shape, FULL)


class Compared(unittest.TestCase):
    def test_instances(self):
        self.assertIs(Term(listed(INT)).is_instance(Term(listed("T"))), True)
        self.assertIs(Term(listed("T")).is_instance(Term(listed(INT))), False)
        self.assertIs(Term("T").is_instance(other=Term("U")), True)
        self.assertIs(Term(pair("T", "U")).is_instance(Term(pair("T", "T"))), False)
        self.assertIs(Term(INT).is_instance(Term(NIL)), False)
        for other in OTHERS:
            self.assertIs(Term("T").is_instance(other), False)

    def test_meets(self):
        self.assertEqual((Term(pair("T", INT)) & Term(pair(NIL, "T"))).shape, pair(NIL, INT))
        self.assertEqual((Term("T") & Term(listed("T"))).shape, listed("V0"))
        self.assertEqual((Term("X") & Term("Y")).shape, "V0")
        self.assertIsNone(Term(INT) & Term(NIL))
        self.assertIsNone(Term(pair("T", "T")) & Term(pair("T", listed("T"))))
        self.assertIsInstance(Term("T") & Term(INT), Term)

    def test_a_meet_that_is_no_term(self):
        one, other = Term(pair("A", tower(4))), Term(pair(listed("T"), "T"))
        self.assertEqual(raised(InvalidTerm, lambda: one & other).thing, pair(tower(5), tower(4)))
        one, other = Term(pair("A", tower(3))), Term(pair(listed("T"), "T"))
        self.assertEqual((one & other).shape, pair(tower(4), tower(3)))
        one, other = Term(triple("A", "A", "A")), Term(triple("A", "B", tree(3)))
        self.assertEqual((one & other).shape, FULL)
        larger = triple(INT, INT, tree(3))
        one = Term(triple("A", "A", "A"))
        self.assertEqual(raised(InvalidTerm, lambda: one & Term(triple("A", "B", larger))).thing,
                         triple(larger, larger, larger))
        one, other = Term(triple("A", "A", listed("A"))), Term(triple("A", "B", listed(tree(3, "Z"))))
        self.assertEqual(raised(InvalidTerm, lambda: one & other).thing,
                         triple(tree(3, "V0"), tree(3, "V0"), listed(tree(3, "V0"))))

    def test_meets_with_other_values(self):
        for other in OTHERS:
            with self.assertRaises(TypeError):
                Term("T") & other

    def test_equal(self):
        self.assertTrue(Term(listed("T")) == Term(listed("T")))
        self.assertFalse(Term(listed("T")) == Term(listed("U")))
        self.assertFalse(Term("T") == Term("U"))
        self.assertTrue(Term("T") != Term("U"))
        self.assertFalse(Term("T") != Term("T"))
        for other in (*OTHERS, "T"):
            self.assertFalse(Term("T") == other)
            self.assertFalse(other == Term("T"))
        self.assertFalse(Term(INT) == INT)

    def test_pieces(self):
        one = Term(pair(listed("T"), INT))
        for piece in (one.shape, listed("T"), "T", INT):
            self.assertTrue(Term(piece) in one)
        for other in ("U", listed("U"), NIL, listed(one.shape), ("base.list",)):
            self.assertFalse(Term(other) in one)
        for other in (*OTHERS, "T", INT):
            self.assertFalse(other in one)

    def test_random(self):
        source = random.Random(1)
        for _ in range(200):
            one, other = (Term(random_term(source, ("A", "B"), 3)) for _ in range(2))
            met = one & other
            if met is not None:
                self.assertTrue(met.is_instance(one) and met.is_instance(other))
                self.assertEqual(met, other & one)
            self.assertEqual(Term.read(str(one)), one)


if __name__ == "__main__":
    unittest.main()
