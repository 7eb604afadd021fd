"""Own places and bare places: point 10."""

import unittest

from helping import INT, base, listed, pair, shop
from nevermet.functions import Function
from nevermet.houses import House
from nevermet.packages import Package
from nevermet.places import bare_places, own_place
from nevermet.rules import Rule, SoftRule


def own(rule, *, sorts=(("mine", 0), ("box", 1)), traits=(), functions=(), others=()):
    """The own place of a rule of the package `my` that needs `base`."""
    package = Package("my", "base", sorts=sorts, traits=traits, functions=functions, rules=[Rule(("base.p", INT)), rule])
    kinds = [("p", 1, False, ()), ("r", 3, False, ()), ("m", 2, True, ())]
    low = Package("base", sorts=[("int", 0), ("list", 1), ("pair", 2)], traits=kinds)
    return own_place(House(low, package, *others), "my", 1)


MINE = ("my.mine",)


class OwnPlace(unittest.TestCase):
    def test_example(self):
        house = House(base(), shop())
        self.assertEqual([own_place(house, "shop", 0), own_place(house, "base", 1)], [0, -1])

    def test_own_traits(self):
        kinds = [("t", 1, False, ()), ("k", 1, True, ())]
        self.assertEqual(own(Rule(("my.t", "T")), traits=kinds), -1)
        self.assertEqual(own(Rule(("my.k", MINE)), traits=kinds), -1)

    def test_the_word_of_the_head_may_stand_for_anything(self):
        self.assertEqual(own(Rule(("my.mine", "T"))), -1)
        self.assertEqual(own(Rule(("my.do", "T")), functions=[Function("do")]), -1)
        self.assertIsNone(own(Rule(("my.none", "T"))))

    def test_the_least_owned_place(self):
        self.assertEqual(own(Rule(("base.p", MINE))), 0)
        self.assertEqual(own(Rule(("base.p", ("my.box", "T")))), 0)
        self.assertEqual(own(Rule(("base.m", INT, MINE))), 1)
        self.assertEqual(own(Rule(("base.r", listed("T"), MINE, MINE))), 1)
        self.assertEqual(own(Rule(("base.r", INT, listed(MINE), ("my.box", "U")))), 2)
        self.assertEqual(own(Rule(("base.r", MINE, "T", MINE))), 0)
        self.assertEqual(own(SoftRule(("base.m", MINE, "T"))), 0)

    def test_a_bare_place_before_it(self):
        self.assertIsNone(own(Rule(("base.m", "T", MINE))))
        self.assertIsNone(own(Rule(("base.r", INT, "T", MINE))))
        self.assertIsNone(own(Rule(("base.p", "T"))))

    def test_no_place_is_owned(self):
        self.assertIsNone(own(Rule(("base.p", INT))))
        self.assertIsNone(own(Rule(("base.p", listed(MINE)))))
        self.assertIsNone(own(Rule(("base.r", INT, pair(MINE, MINE), listed("T")))))
        self.assertIsNone(own(Rule(("base.p", ("my.none",)))))

    def test_names_that_begin_with_one_another(self):
        other = Package("mya", sorts=[("mine", 0)], traits=[("t", 1, False, ())])
        self.assertIsNone(own(Rule(("base.p", ("mya.mine",))), others=[other]))
        self.assertIsNone(own(Rule(("mya.t", INT)), others=[other]))

    def test_heads_that_stand_for_something_else(self):
        kinds = [("t", 1, False, ())]
        self.assertEqual(own(Rule(("base.p", ("my.t",))), traits=kinds), 0)
        self.assertEqual(own(Rule(("base.p", ("my.do",))), functions=[Function("do")]), 0)

    def test_by_name(self):
        self.assertEqual(own_place(house=House(base(), shop()), name="shop", index=0), 0)


class BarePlaces(unittest.TestCase):
    def test_none_some_all(self):
        self.assertEqual(bare_places(Rule(("base.r", INT, listed("T"), INT))), ())
        self.assertEqual(bare_places(Rule(("base.r", "T", listed("T"), "U"))), (0, 2))
        self.assertEqual(bare_places(Rule(("base.r", INT, "T", INT))), (1,))
        self.assertEqual(bare_places(SoftRule(("base.r", "T", "T", "U"))), (0, 1, 2))
        self.assertEqual(bare_places(rule=Rule(("base.p", "T"))), (0,))


if __name__ == "__main__":
    unittest.main()
