import unittest

from helping import INT, NIL, listed, pair, random_terms, slow_fill, slow_unify, slow_variables, tower, triple
from nevermet.matching import are_variants
from nevermet.terms import renamed, same
from nevermet.unify import meet, unify

DEEP = 3000


def both(ones, others, fill):
    return tuple(slow_fill(one, fill) for one in ones), tuple(slow_fill(one, fill) for one in others)


class Unify(unittest.TestCase):
    def see(self, ones, others):
        """Whether there is a unifier, after all that the document says of it is seen."""
        found, slow = unify(ones, others), slow_unify(ones, others)
        self.assertEqual(found is None, slow is None, (ones, others))
        if found is None:
            return False
        one, other = both(ones, others, found)
        self.assertEqual(one, other)
        names = slow_variables(*ones, *others)
        for name, term in found.items():
            self.assertIn(name, names)
            self.assertFalse(set(slow_variables(term)) & set(found), (ones, others, found))
        ours = tuple(slow_fill(name, found) for name in names)
        theirs = tuple(slow_fill(name, slow) for name in names)
        self.assertTrue(are_variants(ours, theirs), (ones, others, found, slow))
        return True

    def test_ordinary(self):
        self.assertEqual(unify(("T",), (INT,)), {"T": INT})
        self.assertEqual(unify((INT,), ("T",)), {"T": INT})
        self.assertEqual(unify((listed("T"), "U"), (listed(INT), "T")), {"T": INT, "U": INT})
        self.assertEqual(unify((INT,), (INT,)), {})
        self.assertEqual(unify(("T",), ("T",)), {})
        self.assertEqual(unify((), ()), {})
        self.assertIn(unify(("T",), ("U",)), ({"T": "U"}, {"U": "T"}))
        self.assertEqual(unify(ones=("A", "B", "C"), others=(INT, NIL, INT)), {"A": INT, "B": NIL, "C": INT})

    def test_none(self):
        for ones, others in (((INT,), (NIL,)), ((listed("T"),), (INT,)), ((("a.b", "T"),), (("a.b", "T", "U"),)),
                             (("T", "T"), (INT, NIL)), ((pair("T", "U"), "T"), (pair("U", INT), NIL)),
                             (("T", "U", "V"), ("U", "V", listed("T")))):
            self.assertIsNone(unify(ones, others), (ones, others))
            self.assertFalse(self.see(ones, others))

    def test_a_variable_that_would_contain_itself(self):
        for ones, others in ((("T",), (listed("T"),)), ((listed("T"),), ("T",)), (("T", "U"), (listed("U"), "T")),
                             (("T", "U"), (listed("U"), listed("T"))), ((pair("T", "T"),), (pair("U", listed("U")),)),
                             (("A", "B", "C"), (pair(INT, "B"), listed("C"), pair("A", INT)))):
            self.assertIsNone(unify(ones, others), (ones, others))

    def test_the_same_variable_on_both_sides_is_the_same(self):
        self.assertIsNone(unify(("T",), (listed("T"),)))
        self.assertEqual(unify(("T", INT), ("U", "T")), {"T": INT, "U": INT})

    def test_what_is_put_in_contains_no_key(self):
        found = unify(("A", "B", "C"), (pair("B", "C"), listed("C"), INT))
        self.assertEqual(found, {"A": pair(listed(INT), INT), "B": listed(INT), "C": INT})
        found = unify(("A", "B", "C", "D"), ("B", "C", "D", INT))
        self.assertEqual(found, {"A": INT, "B": INT, "C": INT, "D": INT})

    def test_the_arguments_stay(self):
        ones, others = (pair("T", "U"),), (pair("U", INT),)
        unify(ones, others)["T"] = NIL
        self.assertEqual((ones, others), ((pair("T", "U"),), (pair("U", INT),)))
        self.assertEqual(unify(ones, others), {"T": INT, "U": INT})

    def test_random(self):
        hits = 0
        for seed in range(3000):
            hits += self.see(*random_terms(seed, ("A", "B", "C", "D"), deep=3))
        self.assertGreater(hits, 500)
        self.assertGreater(3000 - hits, 500)

    def test_any_size(self):
        found = unify((tower(DEEP, "T"), "U"), (tower(2 * DEEP), tower(DEEP, "T")))
        self.assertTrue(same(found["T"], tower(DEEP)))
        self.assertTrue(same(found["U"], tower(2 * DEEP)))
        self.assertIsNone(unify((tower(DEEP, "T"),), (tower(DEEP - 1, "T"),)))

    def test_no_unifier_where_terms_would_grow(self):
        names = [f"A{at}" for at in range(40)], [f"B{at}" for at in range(40)]
        ones = tuple(name for row in names for name in row[:-1]) + (names[0][0],)
        others = tuple(pair(name, name) for row in names for name in row[1:]) + (names[1][0],)
        self.assertIsNone(unify(ones + ("A39", "B39"), others + (INT, NIL)))
        self.assertIsNone(unify(ones + ("A39", "B39"), others + (INT, listed("B39"))))


class Meet(unittest.TestCase):
    def test_ordinary(self):
        self.assertEqual(meet((INT,), ("T",)), (INT,))
        self.assertEqual(meet(("T",), (INT,)), (INT,))
        self.assertEqual(meet((pair("T", INT),), (pair(NIL, "T"),)), (pair(NIL, INT),))
        self.assertEqual(meet(ones=("T", "T"), others=("U", INT)), (INT, INT))
        self.assertEqual(meet((), ()), ())
        self.assertIsNone(meet((INT,), (NIL,)))
        self.assertIsNone(meet(("T", "T"), (INT, NIL)))
        self.assertIsNone(meet(("T", "T"), ("U", listed("U"))))

    def test_the_same_names_are_others(self):
        self.assertEqual(meet(("T",), (listed("T"),)), (listed("V0"),))
        self.assertEqual(meet((listed("T"),), ("T",)), (listed("V0"),))
        self.assertEqual(meet((pair("T", INT),), (pair(INT, "T"),)), (pair(INT, INT),))
        self.assertEqual(meet((pair("T", "U"),), (pair("U", "T"),)), (pair("V0", "V1"),))
        self.assertEqual(meet((pair("T", "T"),), (pair("T", "U"),)), (pair("V0", "V0"),))

    def test_renamed_form(self):
        self.assertEqual(meet(("V1", "V0"), ("V0", "V0")), ("V0", "V0"))
        self.assertEqual(meet(("V1", "V0"), ("V1", "V0")), ("V0", "V1"))
        self.assertEqual(meet((pair("V3", "V1"), "V0"), ("V0", listed("V1"))), (pair("V0", "V1"), listed("V2")))
        self.assertEqual(meet((triple("C", "B", "A"),), ("T",)), (triple("V0", "V1", "V2"),))

    def test_random(self):
        hits = 0
        for seed in range(2000):
            ones, others = random_terms(seed, ("A", "V0", "V1"))
            there = {name: "X" + str(at) for at, name in enumerate(slow_variables(*others))}
            new = tuple(slow_fill(one, there) for one in others)
            slow = slow_unify(ones, new)
            expected = None if slow is None else renamed(both(ones, new, slow)[0])
            self.assertEqual(meet(ones, others), expected, (ones, others))
            self.assertEqual(meet(others, ones), expected, (ones, others))
            hits += slow is not None
        self.assertGreater(hits, 300)


if __name__ == "__main__":
    unittest.main()
