import unittest

from helping import INT, NIL, listed, pair, random_terms, slow_fill, slow_variables, tower, triple
from nevermet.matching import are_variants, is_instance, matched
from nevermet.terms import same

DEEP = 20000


class Matched(unittest.TestCase):
    def test_ordinary(self):
        self.assertEqual(matched(("T",), (INT,)), {"T": INT})
        self.assertEqual(matched((listed("T"),), (listed(INT),)), {"T": INT})
        self.assertEqual(matched((listed("T"), "U"), (listed(listed(INT)), NIL)), {"T": listed(INT), "U": NIL})
        self.assertEqual(matched((INT,), (INT,)), {})
        self.assertEqual(matched((triple("A", "B", "C"),), (triple(INT, NIL, "A"),)), {"A": INT, "B": NIL, "C": "A"})

    def test_none(self):
        for ones, others in (((INT,), (NIL,)), ((INT,), ("T",)), ((listed("T"),), ("T",)), ((listed("T"),), (INT,)),
                             ((("a.b", "T"),), (("a.b", "T", "T"),)), ((("a.b",),), (("a.b", "T"),)),
                             ((listed(INT),), (listed("T"),)), ((pair("T", "T"),), (pair(INT, NIL),)),
                             (("T", "U", INT), (INT, INT, NIL))):
            self.assertIsNone(matched(ones, others), (ones, others))

    def test_lengths(self):
        self.assertEqual(matched((), ()), {})
        self.assertEqual(matched(("A", "B", "A"), (INT, NIL, INT)), {"A": INT, "B": NIL})

    def test_a_variable_that_occurs_twice(self):
        self.assertEqual(matched((pair("T", "T"),), (pair(listed("U"), listed("U")),)), {"T": listed("U")})
        self.assertIsNone(matched((pair("T", "T"),), (pair(listed("U"), listed("V")),)))
        self.assertEqual(matched(("T", "T"), ("U", "U")), {"T": "U"})
        self.assertIsNone(matched(("T", "T"), ("U", "V")))
        self.assertIsNone(matched(("T", listed("T")), (INT, listed(NIL))))

    def test_the_same_names_on_both_sides(self):
        self.assertEqual(matched(("T",), ("T",)), {"T": "T"})
        self.assertEqual(matched(("T",), (listed("T"),)), {"T": listed("T")})
        self.assertEqual(matched((pair("T", "U"),), (pair("U", "T"),)), {"T": "U", "U": "T"})
        self.assertIsNone(matched((pair("T", "T"),), (pair("T", listed("T")),)))
        self.assertEqual(matched(("A", "B"), ("B", listed("A"))), {"A": "B", "B": listed("A")})

    def test_the_arguments_stay(self):
        ones, others = (pair("T", "U"),), (pair(INT, "T"),)
        found = matched(ones=ones, others=others)
        found["T"] = NIL
        self.assertEqual((ones, others), ((pair("T", "U"),), (pair(INT, "T"),)))
        self.assertEqual(matched(ones, others), {"T": INT, "U": "T"})

    def test_any_size(self):
        self.assertTrue(same(matched((tower(DEEP, "T"),), (tower(2 * DEEP),))["T"], tower(DEEP)))
        self.assertIsNone(matched(("T", "T"), (tower(DEEP), tower(DEEP + 1))))
        self.assertEqual(list(matched(("T", "T"), (tower(DEEP), tower(DEEP)))), ["T"])

    def test_random(self):
        hits = 0
        for seed in range(1500):
            ones, others = random_terms(seed, ("A", "B", "C"))
            found = matched(ones, others)
            if found is not None:
                hits += 1
                self.assertEqual(tuple(slow_fill(one, found) for one in ones), others)
                self.assertEqual(sorted(found), sorted(slow_variables(*ones)))
            image = tuple(slow_fill(one, {"A": pair("B", "A"), "B": "C", "C": INT}) for one in ones)
            expected = {"A": pair("B", "A"), "B": "C", "C": INT}
            self.assertEqual(matched(ones, image), {name: expected[name] for name in slow_variables(*ones)})
        self.assertGreater(hits, 100)


class Instances(unittest.TestCase):
    def test_which_is_an_instance_of_which(self):
        self.assertIs(is_instance((INT,), ("T",)), True)
        self.assertIs(is_instance(("T",), (INT,)), False)
        self.assertIs(is_instance(("T",), ("U",)), True)
        self.assertIs(is_instance(("U", "U"), ("T", "U")), True)
        self.assertIs(is_instance(("T", "U"), ("U", "U")), False)
        self.assertIs(is_instance((), ()), True)
        self.assertIs(is_instance(ones=(listed("T"),), others=("T",)), True)
        self.assertIs(is_instance((pair("T", "T"),), (pair("T", "U"),)), True)

    def test_variants(self):
        self.assertIs(are_variants((), ()), True)
        self.assertIs(are_variants(("T",), ("T",)), True)
        self.assertIs(are_variants(("T", "U", "T"), ("U", "T", "U")), True)
        self.assertIs(are_variants(("T", "U"), ("T", "T")), False)
        self.assertIs(are_variants(("T", "T"), ("T", "U")), False)
        self.assertIs(are_variants((INT,), ("T",)), False)
        self.assertIs(are_variants(("T",), (INT,)), False)
        self.assertIs(are_variants(ones=(listed("A"),), others=(listed("B"),)), True)
        self.assertIs(are_variants((INT,), (NIL,)), False)


if __name__ == "__main__":
    unittest.main()
