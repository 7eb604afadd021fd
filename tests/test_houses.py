import unittest

from helping import PLAIN_VALUES, base, raised, rich, shop
from nevermet.errors import NeverError, NoEdition, NoHouse, TooMany
from nevermet.functions import Function
from nevermet.houses import House
from nevermet.packages import Package
from nevermet.rules import Rule, SoftRule


def told(*packages):
    """The reason and the name that every way of making a house tells."""
    error, other = raised(NoHouse, House, *packages), raised(NoHouse, House.of, list(packages))
    assert (error.reason, error.name) == (other.reason, other.name)
    assert isinstance(error, NeverError)
    return error.reason, error.name


class Made(unittest.TestCase):
    def test_no_package(self):
        for house in (House(), House.of(()), House.of([])):
            self.assertEqual((house.names, len(house), repr(house)), ((), 0, "House()"))
            self.assertFalse("base" in house)
            self.assertTrue(house == House())

    def test_names(self):
        house = House(shop(), rich(), base())
        self.assertEqual(house.names, ("base", "rich", "shop"))
        self.assertEqual(len(house), 3)
        self.assertEqual(repr(house), "House(base 1, rich 7, shop 1)")
        self.assertEqual(repr(House(base())), "House(base 1)")

    def test_of(self):
        self.assertEqual(House.of([base(), shop()]), House(shop(), base()))
        self.assertEqual(House.of(packages=(base(),)), House(base()))
        rows = [base()]
        house = House.of(rows)
        rows.append(shop())
        self.assertEqual(house.names, ("base",))

    def test_too_many(self):
        names = [f"p{letter}" for letter in "abcdefghijklmn"]
        many = [Package(name) for name in names]
        self.assertEqual(len(House(*many[:12])), 12)
        self.assertEqual(raised(TooMany, House, *many[:13]).limit, 12)
        self.assertEqual(raised(TooMany, House.of, tuple(many)).limit, 12)
        self.assertEqual(raised(TooMany, House, *[base()] * 13).limit, 12)
        self.assertEqual(raised(TooMany, House, *[Package("a", "z"), Package("a", "b")] * 7).limit, 12)
        self.assertEqual(told(*[base()] * 12), ("twice", "base"))

    def test_twice(self):
        self.assertEqual(told(base(), base()), ("twice", "base"))
        self.assertEqual(told(base(), Package("base", edition=2)), ("twice", "base"))
        rows = [Package(name) for name in ("z", "b", "a", "b", "z", "a")]
        self.assertEqual(told(*rows), ("twice", "b"))
        self.assertEqual(told(*rows[:3], rows[0], *rows), ("twice", "z"))

    def test_need(self):
        self.assertEqual(told(shop()), ("need", "base"))
        self.assertEqual(told(Package("a", "z", "y"), Package("b", "x", "a"), Package("c", "w")), ("need", "w"))
        self.assertEqual(told(Package("a", "c"), Package("b", "d")), ("need", "c"))
        self.assertEqual(told(Package("b", "d"), Package("a", "b")), ("need", "d"))

    def test_ring(self):
        self.assertEqual(told(Package("a", "b"), Package("b", "a")), ("ring", "a"))
        self.assertEqual(told(Package("d", "b"), Package("b", "c"), Package("c", "d")), ("ring", "b"))
        self.assertEqual(told(Package("a", "c"), Package("b"), Package("c", "d"), Package("d", "c")), ("ring", "c"))
        self.assertEqual(told(Package("y", "z"), Package("z", "y"), Package("m", "n"), Package("n", "m")), ("ring", "m"))
        self.assertEqual(House(Package("a", "b", "c"), Package("b", "d"), Package("c", "d"), Package("d")).sees("a"),
                         ("b", "c", "d"))

    def test_the_first_error_is_raised(self):
        ring = [Package("a", "b"), Package("b", "a")]
        self.assertEqual(told(*ring, Package("c", "x")), ("need", "x"))
        self.assertEqual(told(*ring, Package("c", "x"), Package("b")), ("twice", "b"))
        self.assertEqual(told(*ring, ring[1]), ("twice", "b"))


class Asked(unittest.TestCase):
    def setUp(self):
        self.house = House(shop(), rich(), base())

    def test_packages(self):
        self.assertEqual(self.house["rich"], rich())
        self.assertEqual(self.house["base"], base())
        for thing in (*PLAIN_VALUES, "bas", "none", base(), ("base",)):
            error = raised(NoEdition, lambda: self.house[thing])
            self.assertEqual((error.name, error.edition), (thing, 0))
            self.assertIs(error.name, thing)

    def test_in(self):
        for name in ("base", "rich", "shop"):
            self.assertIs(name in self.house, True)
        for thing in (*PLAIN_VALUES, "bas", "none", base(), ("base",), ["base"]):
            self.assertIs(thing in self.house, False)

    def test_equal(self):
        self.assertTrue(self.house == House(base(), shop(), rich()))
        self.assertFalse(self.house != House(base(), shop(), rich()))
        for other in (House(base(), shop()), House(base(), shop(), rich().later()), House(), None, True,
                      ("base", "rich", "shop"), [base(), rich(), shop()], {"base": base()}, base(), repr(self.house)):
            self.assertFalse(self.house == other)
            self.assertFalse(other == self.house)

    def test_sees(self):
        rows = [Package("a", "b"), Package("b", "c", "z"), Package("c", "d"), Package("d"), Package("z"), Package("lone")]
        house = House(*rows)
        self.assertEqual(house.sees("a"), ("b", "c", "d", "z"))
        self.assertEqual(house.view("a"), ("a", "b", "c", "d", "z"))
        self.assertEqual((house.sees("b"), house.view(name="b")), (("c", "d", "z"), ("b", "c", "d", "z")))
        self.assertEqual((house.sees(name="c"), house.view("c")), (("d",), ("c", "d")))
        self.assertEqual((house.sees("lone"), house.view("lone")), ((), ("lone",)))
        self.assertEqual(House(Package("z", "a"), Package("a")).view("z"), ("a", "z"))

    def test_words(self):
        house = self.house
        for word, owner, sort, places in (
                ("base.int", "base", "sort", 0), ("base.list", "base", "sort", 1), ("base.show", "base", "trait", 1),
                ("rich.box", "rich", "sort", 3), ("rich.eq", "rich", "trait", 2), ("rich.sure", "rich", "mark", 1),
                ("rich.f", "rich", "function", 2), ("rich.g", "rich", "function", 0), ("shop.item", "shop", "sort", 0)):
            self.assertEqual((house.owner_of(word), house.sort_of(word), house.places_of(word)), (owner, sort, places))
            self.assertEqual((house.owner_of(word=word), house.sort_of(word=word), house.places_of(word=word)),
                             (owner, sort, places))
        for thing in (None, True, 0, "", "base", "T", "base.nil", "shop.int", "none.int", "base.tell", "rich.iter.item",
                      (), [], {}, ("base.int",), ["base.int"], {"base.int": 1}, base(), "base.int\n", "rich.item"):
            self.assertEqual((house.owner_of(thing), house.sort_of(thing), house.places_of(thing)), (None, None, None))
        self.assertEqual(House().owner_of("base.int"), None)

    def test_rules(self):
        one = Package("a", "m", rules=[Rule(("m.t", ("a.k",))), Rule(("m.u", "T")), SoftRule(("m.t", "T")),
                                       Rule(("m.q", "T")), Rule(("z.t", "T")), Rule(("no.t", "T")), Rule(("m.s", "T"))])
        mid = Package("m", sorts=[("s", 1)], traits=[("t", 1, False, ()), ("q", 1, True, ())], functions=[Function("u")],
                      rules=[Rule(("m.t", ("m.s", "T")))])
        last = Package("z", "m", traits=[("t", 1, False, ())], rules=[Rule(("m.q", "T")), Rule(("m.t", "T", "U"))])
        house = House(last, mid, one)
        self.assertEqual(list(house.rules_for("m.t")), [("a", 0), ("a", 2), ("m", 0), ("z", 1)])
        self.assertEqual(list(house.rules_for(trait="m.t", by=None)), [("a", 0), ("a", 2), ("m", 0), ("z", 1)])
        self.assertEqual(list(house.rules_for("m.t", by="a")), [("a", 0), ("a", 2), ("m", 0)])
        self.assertEqual(list(house.rules_for("m.t", by="m")), [("m", 0)])
        self.assertEqual(list(house.rules_for("m.t", by="z")), [("m", 0), ("z", 1)])
        self.assertEqual(list(house.rules_for("m.q")), [("a", 3), ("z", 0)])
        self.assertEqual(list(house.rules_for("z.t")), [("a", 4)])
        self.assertEqual(list(house.rules_for("z.t", by="z")), [])
        for word in ("m.s", "m.u", "no.t", "m.none", "T", "", "m", "a.k"):
            self.assertEqual(list(house.rules_for(word)), [])
            self.assertEqual(list(house.rules_for(word, by="a")), [])
        self.assertEqual(house.rule("a", 2), SoftRule(("m.t", "T")))
        self.assertEqual(house.rule(name="z", index=0), Rule(("m.q", "T")))

    def test_many_rules_in_order(self):
        rules = [Rule(("m.t", "T"))] * 30
        house = House(Package("m", traits=[("t", 1, False, ())], rules=rules), Package("b", "m", rules=rules))
        self.assertEqual(list(house.rules_for("m.t")), [(name, at) for name in "bm" for at in range(30)])

    def test_walked_by_turns(self):
        one, other = self.house.rules_for("base.show"), self.house.rules_for("base.show", by="base")
        self.assertEqual([next(one), next(other), next(other), next(one), next(one)],
                         [("base", 0), ("base", 0), ("base", 1), ("base", 1), ("shop", 0)])
        self.assertEqual([list(one), list(other)], [[], []])

    def test_what_was_taken_out_does_not_change_it(self):
        list(self.house.rules_for("base.show")).clear()
        self.house.rule("rich", 0).members.clear()
        self.assertEqual(self.house, House(base(), rich(), shop()))


class WithPackage(unittest.TestCase):
    def test_a_new_name(self):
        house = House(base())
        found = house.with_package(shop())
        self.assertEqual(found, House(base(), shop()))
        self.assertEqual(house, House(base()))
        self.assertEqual(House().with_package(package=base()), House(base()))

    def test_a_name_that_is_there(self):
        house = House(base(), shop())
        found = house.with_package(base().later())
        self.assertEqual(found, House(base().later(), shop()))
        self.assertEqual(repr(house), "House(base 1, shop 1)")
        self.assertEqual(repr(found), "House(base 2, shop 1)")

    def test_errors(self):
        house = House(base(), shop())
        error = raised(NoHouse, house.with_package, Package("far", "none"))
        self.assertEqual((error.reason, error.name), ("need", "none"))
        error = raised(NoHouse, house.with_package, Package("base", "shop"))
        self.assertEqual((error.reason, error.name), ("ring", "base"))
        full = House(*[Package(f"p{letter}") for letter in "abcdefghijkl"])
        self.assertEqual(raised(TooMany, full.with_package, Package("z")).limit, 12)
        self.assertEqual(len(full.with_package(Package("pa", edition=3))), 12)


if __name__ == "__main__":
    unittest.main()
