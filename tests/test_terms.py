import random
import unittest

from helping import (FULL, INT, NIL, OVERFULL, PLAIN_VALUES, listed, pair, random_term, slow_fill, slow_pieces,
                     slow_variables, tower, tree, triple)
from nevermet.terms import (depth, filled, head_of, is_question, is_term, pieces, renamed, same, size,
                            variables, words)

DEEP = 20000


class Terms(unittest.TestCase):
    def test_right_terms(self):
        for term in ("T", "Z999", INT, ("a.b",), listed("T"), pair("T", "T"), triple("A", INT, listed("B")), FULL,
                     tower(5), tower(5, "T"), tree(4, "T")):
            self.assertIs(is_term(term), True, term)

    def test_symbols(self):
        self.assertEqual((size(FULL), size(OVERFULL)), (40, 41))
        self.assertLessEqual(depth(OVERFULL), 6)
        self.assertIs(is_term(OVERFULL), False)
        self.assertIs(is_term(triple(FULL, "T", "T")), False)
        self.assertIs(is_term(tree(5)), False)

    def test_depth(self):
        self.assertEqual((depth(tower(5)), depth(tower(6))), (6, 7))
        self.assertIs(is_term(tower(5)), True)
        self.assertIs(is_term(tower(6)), False)
        self.assertIs(is_term(tower(5, "T")), True)
        self.assertIs(is_term(tower(6, "T")), False)
        self.assertIs(is_term(pair(INT, tower(5))), False)

    def test_parts(self):
        for many in range(4):
            self.assertIs(is_term(("a.b",) + ("T",) * many), True)
        self.assertIs(is_term(("a.b",) + ("T",) * 4), False)
        self.assertIs(is_term(("a.b",) + (INT,) * 4), False)

    def test_wrong_terms(self):
        for thing in (None, True, False, 0, 1, "", "t", "base.int", "TT", (), [], {}, ["base.int"], ("T",), ("base",),
                      ("T", "U"), ("a.b.c", "T"), (1,), (None,), (True,), (("a.b",),), ("base.list", ["base.int"]),
                      ("base.list", "t"), ("base.list", None), ("base.list", True), ("base.list", "base.int"),
                      ("base.list", ()), ("base.list", ("T",)), ("base.list", ("base.list", ("base.Int",))),
                      ["base.list", "T"], ("base.list", {}), ({}, "T"), ([], "T"), ("self.a",), "T\n", ("a.b\n",)):
            self.assertIs(is_term(thing), False, thing)

    def test_the_value_stays(self):
        thing = ["base.list", ["base.int"]]
        self.assertIs(is_term(thing), False)
        self.assertIs(is_question(thing), False)
        self.assertEqual(thing, ["base.list", ["base.int"]])

    def test_values_of_any_size(self):
        self.assertIs(is_term(tower(DEEP)), False)
        self.assertIs(is_question(("a.b", tower(DEEP))), False)
        self.assertIs(is_term(tree(8)), False)
        shared = INT
        for _ in range(200):
            shared = pair(shared, shared)
        self.assertIs(is_term(shared), False)


class Questions(unittest.TestCase):
    def test_places(self):
        self.assertIs(is_question(("a.b",)), False)
        for many in (1, 2, 3):
            self.assertIs(is_question(("a.b",) + ("T",) * many), True)
            self.assertIs(is_question(("a.b",) + (INT,) * many), True)
        self.assertIs(is_question(("a.b", "T", "T", "T", "T")), False)

    def test_each_place_has_the_limits_of_a_term(self):
        self.assertIs(is_question(("a.b", FULL, FULL, FULL)), True)
        self.assertIs(is_question(("a.b", tower(5), tower(5), tower(5))), True)
        for wrong in (OVERFULL, tower(6), "t", "base.int", None, True, ["base.int"], (), ("T",)):
            for at in (1, 2, 3):
                question = ["a.b", "T", "T", "T"]
                question[at] = wrong
                self.assertIs(is_question(tuple(question)), False, question)

    def test_wrong_questions(self):
        for thing in (None, True, 1, "T", "a.b", (), [], {}, ["a.b", "T"], ("a", "T"), ("T", "T"), ("a.b.c", "T"),
                      (None, "T"), (("a.b",), "T"), (["a.b"], "T"), ({}, "T"), ("self.a", "T")):
            self.assertIs(is_question(thing), False, thing)


class Measures(unittest.TestCase):
    def test_size_and_depth(self):
        for term, symbols, deep in (("T", 1, 1), (INT, 1, 1), (listed("T"), 2, 2), (pair("T", "T"), 3, 2),
                                    (triple(INT, listed(listed("T")), pair("A", "B")), 8, 4), (FULL, 40, 4),
                                    (pair(listed(listed(INT)), INT), 5, 4), (pair(INT, listed(listed(INT))), 5, 4),
                                    (triple(listed(listed("V10")), "X999", "Y1"), 6, 4), ("V123", 1, 1)):
            self.assertEqual((size(term), depth(term)), (symbols, deep), term)
        self.assertEqual((size(tower(DEEP)), depth(tower(DEEP))), (DEEP + 1, DEEP + 1))
        self.assertEqual((size(term="T"), depth(term="T")), (1, 1))

    def test_head(self):
        self.assertEqual([head_of("T"), head_of(INT), head_of(listed("T"))], [None, "base.int", "base.list"])
        self.assertEqual(head_of(term=tower(DEEP)), "base.list")

    def test_pieces(self):
        self.assertEqual(pieces("T"), ("T",))
        self.assertEqual(pieces(INT), (INT,))
        self.assertEqual(pieces(pair("U", "T")), (pair("U", "T"), "U", "T"))
        self.assertEqual(pieces(pair("T", "T")), (pair("T", "T"), "T"))
        term = triple(listed("T"), pair("U", listed("T")), "U")
        self.assertEqual(pieces(term), (term, listed("T"), "T", pair("U", listed("T")), "U"))
        term = pair("T", listed(pair(INT, "T")))
        self.assertEqual(pieces(term), (term, "T", listed(pair(INT, "T")), pair(INT, "T"), INT))
        self.assertEqual(len(pieces(tower(DEEP))), DEEP + 1)
        self.assertIsInstance(pieces("T"), tuple)

    def test_pieces_are_told_apart(self):
        term = triple(("a.b", "A", "B"), ("a.b", "B", "A"), ("a.b", "A"))
        self.assertEqual(pieces(term), (term, ("a.b", "A", "B"), "A", "B", ("a.b", "B", "A"), ("a.b", "A")))
        term = triple(("a.b", INT), ("a.c", INT), ("a.b", NIL))
        self.assertEqual(pieces(term), (term, ("a.b", INT), INT, ("a.c", INT), ("a.b", NIL), NIL))

    def test_variables(self):
        self.assertEqual(variables(), ())
        self.assertEqual(variables(INT, listed(INT)), ())
        self.assertEqual(variables("T"), ("T",))
        self.assertEqual(variables(pair("U", listed("A")), "Z", pair("A", "B")), ("U", "A", "Z", "B"))
        self.assertEqual(variables(tower(DEEP, "T"), "T"), ("T",))
        self.assertIsInstance(variables("T"), tuple)

    def test_words(self):
        self.assertEqual(words(), ())
        self.assertEqual(words("T", "U"), ())
        self.assertEqual(words(pair(INT, listed("T")), ("a.z",), INT), ("a.z", "base.int", "base.list", "base.pair"))
        self.assertEqual(words(("b.a",), ("a.b",)), ("a.b", "b.a"))
        self.assertEqual(words(tower(DEEP)), ("base.int", "base.list"))
        self.assertIsInstance(words(INT), tuple)

    def test_same(self):
        self.assertIs(same(tower(DEEP), tower(DEEP)), True)
        self.assertIs(same(tower(DEEP), tower(DEEP + 1)), False)
        self.assertIs(same(tower(DEEP), tower(DEEP, "T")), False)
        for thing in PLAIN_VALUES:
            for term in ("T", INT, listed("T")):
                self.assertIs(same(thing, term), thing == term)
        for thing in (tower(DEEP, "t"), tower(DEEP, ["base.int"]), tower(DEEP, None), [tower(DEEP)], ()):
            self.assertIs(same(thing, tower(DEEP)), False)

    def test_like_the_slow_way(self):
        source = random.Random(3)
        for _ in range(400):
            term = random_term(source, ("A", "B", "C"), 4)
            self.assertEqual(pieces(term), tuple(dict.fromkeys(slow_pieces(term))))
            self.assertEqual(size(term), len(slow_pieces(term)))
            other = random_term(source, ("A", "B", "C"), 4)
            self.assertEqual(variables(term, other), slow_variables(term, other))
            self.assertIs(same(term, other), term == other)
            fill = {name: random_term(source, ("A", "B", "C"), 3) for name in source.sample("ABCD", 3)}
            self.assertEqual(filled(term, fill), slow_fill(term, fill))


class Fills(unittest.TestCase):
    def test_filled(self):
        self.assertEqual(filled("T", {}), "T")
        self.assertEqual(filled("T", {"T": INT}), INT)
        self.assertEqual(filled(INT, {"T": INT}), INT)
        self.assertEqual(filled(triple("T", "U", "T"), {"T": INT}), triple(INT, "U", INT))
        self.assertEqual(filled(term=listed("T"), fill={"U": INT}), listed("T"))

    def test_all_at_once(self):
        self.assertEqual(filled(pair("T", "U"), {"T": "U", "U": "T"}), pair("U", "T"))
        self.assertEqual(filled(pair("T", "U"), {"U": "T", "T": "U"}), pair("U", "T"))
        self.assertEqual(filled(pair("T", "U"), {"T": listed("T"), "U": listed("T")}),
                         pair(listed("T"), listed("T")))
        self.assertEqual(filled("T", {"T": pair("T", "T")}), pair("T", "T"))
        self.assertEqual(filled("A", {"A": "B", "B": "C", "C": INT}), "B")

    def test_the_fill_stays(self):
        fill = {"T": listed("T"), "U": "T", "Z": INT}
        filled(pair("T", "U"), fill)
        self.assertEqual(fill, {"T": listed("T"), "U": "T", "Z": INT})

    def test_order_of_the_parts(self):
        self.assertEqual(filled(triple("A", pair("B", "C"), "A"), {"A": "C", "B": "A", "C": "B"}),
                         triple("C", pair("A", "B"), "C"))

    def test_questions(self):
        self.assertEqual(filled(("base.show", listed("T")), {"T": INT}), ("base.show", listed(INT)))

    def test_any_size(self):
        self.assertTrue(same(filled(tower(DEEP, "T"), {"T": tower(DEEP)}), tower(2 * DEEP)))

    def test_renamed(self):
        self.assertEqual(renamed(()), ())
        self.assertEqual(renamed(("T",)), ("V0",))
        self.assertEqual(renamed((INT,)), (INT,))
        self.assertEqual(renamed((pair("U", "T"), "A", listed("U"))), (pair("V0", "V1"), "V2", listed("V0")))
        self.assertEqual(renamed(terms=("A", "A")), ("V0", "V0"))

    def test_renamed_twice(self):
        self.assertEqual(renamed(("V1", "V0", "V2")), ("V0", "V1", "V2"))
        self.assertEqual(renamed((pair("V5", "V0"), "V1")), (pair("V0", "V1"), "V2"))
        self.assertEqual(renamed(("V0", "V1")), ("V0", "V1"))

    def test_many_variables(self):
        row = tuple(f"A{at}" for at in range(150))
        self.assertEqual(renamed(row), tuple(f"V{at}" for at in range(150)))
        back = tuple(f"V{at}" for at in range(149, -1, -1))
        self.assertEqual(renamed(back), tuple(f"V{at}" for at in range(150)))
        self.assertEqual(renamed(row[:101] + row[:101])[100::101], ("V100", "V100"))


if __name__ == "__main__":
    unittest.main()
