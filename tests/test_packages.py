import unittest

from helping import INT, PLAIN_VALUES, base, listed, raised, rich, shop
from nevermet.errors import InvalidPackage, NeverError
from nevermet.functions import Function
from nevermet.names import is_name
from nevermet.packages import Package
from nevermet.rules import Rule, SoftRule

RULE = Rule(("a.b", "T"))
NAMES = [one + other for one in "abcdef" for other in "abcdefgh"]
NO_ROWS = (None, True, 1, "", "ab", {}, {"ab": 1})


def fault(call, *passed, **named):
    error = raised(InvalidPackage, call, *passed, **named)
    return error.field, error.index


def wrong(name, *needs, **fields):
    """The (field, index) that both ways of making a package tell."""
    found = {fault(Package, name, *needs, **fields), fault(Package.of, name, needs, **fields),
             fault(Package.of, name, list(needs), **fields)}
    assert len(found) == 1, found
    return found.pop()


def sorts(many, start=0):
    return [(name, 0) for name in NAMES[start:start + many]]


def traits(many, start=0):
    return [(name, 1, False, ()) for name in NAMES[start:start + many]]


def functions(many, start=0):
    return [Function(name) for name in NAMES[start:start + many]]


class Made(unittest.TestCase):
    def test_properties(self):
        one = Package("one")
        self.assertEqual((one.name, one.needs, one.edition, one.sorts, one.traits, one.rules, one.functions, one.words),
                         ("one", (), 1, (), (), (), (), ()))
        one = Package("one", "two", "six", edition=5, sorts=[("z", 3), ("a", 0)], traits=[("m", 2, True, ())],
                      rules=[RULE, SoftRule(("a.b", "T"))], functions=[Function("f", "T")])
        self.assertEqual((one.name, one.needs, one.edition), ("one", ("six", "two"), 5))
        self.assertEqual((one.sorts, one.traits), ((("z", 3), ("a", 0)), (("m", 2, True, ()),)))
        self.assertEqual(one.rules, (RULE, SoftRule(("a.b", "T"))))
        self.assertEqual(one.functions, (Function("f", "T"),))
        self.assertEqual(one.words, ("one.a", "one.f", "one.m", "one.z"))
        for value in (one.needs, one.sorts, one.traits, one.rules, one.functions, one.words):
            self.assertIsInstance(value, tuple)
        with self.assertRaises(AttributeError):
            one.needs = ()

    def test_of(self):
        one = Package("one", "two", "six", edition=5, sorts=sorts(2), traits=traits(1, 4), rules=[RULE],
                      functions=functions(1, 9))
        for needs in (["two", "six"], ("six", "two", "two")):
            self.assertEqual(Package.of("one", needs, edition=5, sorts=tuple(sorts(2)), traits=tuple(traits(1, 4)),
                                        rules=(RULE,), functions=tuple(functions(1, 9))), one)
        self.assertEqual(Package.of(name="one", needs=()), Package("one"))
        self.assertEqual(Package(name="one"), Package("one"))

    def test_needs_in_any_order_and_twice(self):
        self.assertEqual(Package("one", "b", "a", "b", "a").needs, ("a", "b"))
        many = NAMES[:8]
        self.assertEqual(Package("one", *many[::-1], *many).needs, tuple(sorted(many)))

    def test_what_was_passed_in_does_not_change_it(self):
        needs, rows, marks, rules, runs = ["two"], sorts(2), traits(1, 4), [RULE], functions(1, 9)
        one = Package.of("one", needs, sorts=rows, traits=marks, rules=rules, functions=runs)
        two = Package("one", *needs, sorts=rows, traits=marks, rules=rules, functions=runs)
        text = str(one)
        for row in (needs, rows, marks, rules, runs):
            row.clear()
        self.assertEqual((str(one), str(two)), (text, text))


class Wrong(unittest.TestCase):
    def test_name(self):
        for thing in PLAIN_VALUES:
            if not is_name(thing):
                self.assertEqual(wrong(thing), ("name", None), thing)
        for thing in ("self", "head", "abcdefghi", RULE, Package("a")):
            self.assertEqual(wrong(thing), ("name", None))
        self.assertIsInstance(raised(InvalidPackage, Package, None), NeverError)
        self.assertEqual(Package("abcdefgh").name, "abcdefgh")

    def test_needs(self):
        for thing in PLAIN_VALUES:
            if not is_name(thing):
                self.assertEqual(wrong("one", thing), ("needs", 0), thing)
                self.assertEqual(wrong("one", "a", "a", thing, "b"), ("needs", 2), thing)
        self.assertEqual(wrong("one", "one"), ("needs", 0))
        self.assertEqual(wrong("one", "a", "a", "one", "self"), ("needs", 2))
        self.assertEqual(wrong("one", *NAMES[:9]), ("needs", None))
        self.assertEqual(wrong("one", *NAMES[:9], *NAMES[:9]), ("needs", None))
        self.assertEqual(wrong("one", *NAMES[:9], "one"), ("needs", 9))
        self.assertEqual(wrong("one", *NAMES[:4], None, *NAMES[4:9]), ("needs", 4))
        for thing in (None, "two", {"two": 1}, 3):
            self.assertEqual(fault(Package.of, "one", thing), ("needs", None))

    def test_edition(self):
        for edition in (1, 2, 998, 999):
            self.assertEqual(Package("one", edition=edition).edition, edition)
        for thing in (0, -1, 1000, 10 ** 59, True, False, None, "1", (), [1], {}, RULE):
            self.assertEqual(wrong("one", edition=thing), ("edition", None), thing)

    def see_items(self, field, right, wrong_ones, most):
        """Whether a field takes so many right items, and tells the first wrong one."""
        for rows in (right[:most], tuple(right[:most])):
            self.assertEqual(getattr(Package("one", **{field: rows}), field), tuple(right[:most]))
        self.assertEqual(wrong("one", **{field: right[:most + 1]}), (field, None))
        for thing in wrong_ones:
            self.assertEqual(wrong("one", **{field: [thing]}), (field, 0), thing)
            self.assertEqual(wrong("one", **{field: (right[0], thing, None)}), (field, 1), thing)
        self.assertEqual(wrong("one", **{field: [*right[:most], None, None]}), (field, most))
        self.assertEqual(wrong("one", **{field: [*right[:most + 1], None]}), (field, most + 1))
        self.assertEqual(wrong("one", **{field: [right[0], None, *right[1:most + 3]]}), (field, 1))
        for thing in NO_ROWS:
            self.assertEqual(wrong("one", **{field: thing}), (field, None), thing)

    def test_sorts(self):
        for places in range(4):
            self.assertEqual(Package("one", sorts=[("a", places)]).sorts, (("a", places),))
        no_sorts = [("a", 4), ("a", -1), ("a", True), ("a", False), ("a", None), ("a", "1"), ("a",), ("a", 1, 1), ["a", 1],
                    ("self", 1), ("A", 1), ("a.b", 1), (None, 1), (1, "a"), (), [], "a", None, True, {}, {"a": 1}, RULE]
        self.see_items("sorts", sorts(20), no_sorts, 12)

    def test_traits(self):
        for places in (1, 2, 3):
            self.assertEqual(Package("one", traits=[("a", places, True, ())]).traits, (("a", places, True, ()),))
        for members in ((), ("a",), ("a", "b"), ("a", "b", "c"), ("rule", "with", "zzzzzzzz")):
            self.assertEqual(Package("one", traits=[("a", 1, False, members)]).traits, (("a", 1, False, members),))
        no_traits = [("a", 0, False, ()), ("a", 4, False, ()), ("a", -1, False, ()), ("a", True, False, ()),
                     ("a", None, False, ()), ("a", "1", False, ()), ("a", 1, 0, ()), ("a", 1, 1, ()), ("a", 1, None, ()),
                     ("a", 1, False, []), ("a", 1, False, None), ("a", 1, False, "b"), ("a", 1, False, {}),
                     ("a", 1, False, ["b"]), ("a", 1, False, ("b", "a")), ("a", 1, False, ("a", "a")),
                     ("a", 1, False, ("a", "b", "c", "d")), ("a", 1, False, ("self",)), ("a", 1, False, ("A",)),
                     ("a", 1, False, (None,)), ("a", 1, False, ([],)), ("a", 1, True, ("b",)), ("a", 1, False),
                     ("a", 1, False, (), ()), ["a", 1, False, ()], ("head", 1, False, ()), (None, 1, False, ()), (), [],
                     "a", None, True, {}, ("a", 1), RULE]
        self.see_items("traits", traits(20), no_traits, 8)

    def test_rules(self):
        rules = [(Rule if at % 2 else SoftRule)((f"a.{name}", "T")) for at, name in enumerate(NAMES)]
        no_rules = [None, True, 1, "", (), [], {}, ("a.b", "T"), str(RULE), Function("f"), Package("a"), ("a", 1)]
        self.see_items("rules", rules, no_rules, 30)
        self.assertEqual(Package("one", rules=[RULE, RULE]).rules, (RULE, RULE))

    def test_functions(self):
        no_functions = [None, True, 1, "", (), [], {}, ("ask", ("a.b", "T")), str(Function("f")), RULE, Package("a")]
        self.see_items("functions", functions(20), no_functions, 8)

    def test_names(self):
        for fields in ({"sorts": [("a", 1), ("a", 2)]}, {"sorts": [("a", 1), ("b", 1), ("a", 1)]},
                       {"traits": [("a", 1, False, ()), ("a", 2, True, ())]},
                       {"functions": [Function("a"), Function("a", "T")]},
                       {"sorts": [("a", 1)], "traits": [("a", 1, False, ())]},
                       {"sorts": [("a", 1)], "functions": [Function("a")]},
                       {"traits": [("a", 1, False, ())], "functions": [Function("b"), Function("a")]}):
            self.assertEqual(wrong("one", **fields), ("names", None), fields)
        one = Package("one", sorts=[("one", 0)], traits=[("a", 1, False, ("one", "sort"))], rules=[Rule(("one.one", "T"))])
        self.assertEqual(one.words, ("one.a", "one.one"))

    def test_the_first_field_is_told(self):
        bad = {"edition": 0, "sorts": [None], "traits": [None], "rules": [None], "functions": [None]}
        self.assertEqual(wrong("One", "one", **bad), ("name", None))
        self.assertEqual(wrong("one", "a", "one", **bad), ("needs", 1))
        order = ["edition", "sorts", "traits", "rules", "functions"]
        for field in order:
            self.assertEqual(wrong("one", **bad), (field, None if field == "edition" else 0))
            del bad[field]
        same = [("a", 1), ("a", 1)]
        self.assertEqual(wrong("one", sorts=same, functions=3), ("functions", None))
        self.assertEqual(wrong("one", sorts=same, traits=[("a", 1, False, ()), None]), ("traits", 1))
        self.assertEqual(wrong("one", sorts=sorts(13), traits=None), ("sorts", None))
        self.assertEqual(wrong("one", sorts=same), ("names", None))


class Later(unittest.TestCase):
    def setUp(self):
        self.one = Package("one", "b", edition=4, sorts=sorts(2), traits=traits(2, 2), rules=[RULE],
                           functions=functions(1, 4))

    def test_with_each_kind_of_item(self):
        more = SoftRule(("a.b", "T"))
        found = self.one.later("c", "a", "b", sorts=sorts(1, 5), traits=tuple(traits(1, 6)), rules=[more, RULE],
                               functions=functions(2, 7))
        self.assertEqual(found, Package("one", "a", "b", "c", edition=5, sorts=sorts(2) + sorts(1, 5),
                                        traits=traits(2, 2) + traits(1, 6), rules=[RULE, more, RULE],
                                        functions=functions(1, 4) + functions(2, 7)))
        self.assertEqual(self.one.edition, 4)
        self.assertEqual(self.one.later(), Package("one", "b", edition=5, sorts=sorts(2), traits=traits(2, 2),
                                                   rules=[RULE], functions=functions(1, 4)))
        self.assertIsInstance(found, Package)

    def test_wrong_items_count_among_all(self):
        self.assertEqual(fault(self.one.later, sorts=[("x", 9)]), ("sorts", 2))
        self.assertEqual(fault(self.one.later, sorts=[("x", 0), None]), ("sorts", 3))
        self.assertEqual(fault(self.one.later, traits=[None]), ("traits", 2))
        self.assertEqual(fault(self.one.later, rules=(RULE, RULE, "x")), ("rules", 3))
        self.assertEqual(fault(self.one.later, functions=[RULE]), ("functions", 1))
        self.assertEqual(fault(self.one.later, sorts=sorts(11, 10)), ("sorts", None))
        self.assertEqual(len(self.one.later(sorts=sorts(10, 10)).sorts), 12)
        self.assertEqual(fault(self.one.later, sorts=[*sorts(11, 10), None]), ("sorts", 13))
        self.assertEqual(fault(self.one.later, traits=traits(7, 10)), ("traits", None))
        self.assertEqual(fault(self.one.later, rules=[RULE] * 30), ("rules", None))
        self.assertEqual(fault(self.one.later, functions=functions(8, 10)), ("functions", None))
        for field in ("sorts", "traits", "rules", "functions"):
            for thing in NO_ROWS:
                self.assertEqual(fault(self.one.later, **{field: thing}), (field, None))
        self.assertEqual(fault(self.one.later, sorts=[self.one.sorts[0]]), ("names", None))
        self.assertEqual(fault(self.one.later, functions=[Function(self.one.traits[0][0])]), ("names", None))

    def test_needs_count_as_they_were_passed(self):
        self.assertEqual(fault(self.one.later, "one"), ("needs", 0))
        self.assertEqual(fault(self.one.later, "a", "a", None), ("needs", 2))
        self.assertEqual(fault(self.one.later, *NAMES[:8]), ("needs", None))
        self.assertEqual(len(self.one.later(*NAMES[:7]).needs), 8)
        self.assertEqual(len(self.one.later(*NAMES[:7], "b", *NAMES[:7]).needs), 8)
        self.assertEqual(fault(self.one.later, *NAMES[:8], "self"), ("needs", 8))

    def test_the_last_edition(self):
        last = Package("one", edition=998).later()
        self.assertEqual(last.edition, 999)
        self.assertEqual(fault(last.later), ("edition", None))
        self.assertEqual(fault(last.later, "one", sorts=None), ("needs", 0))
        self.assertEqual(fault(last.later, *NAMES[:9]), ("needs", None))
        self.assertEqual(fault(last.later, "a", sorts=None), ("edition", None))

    def test_the_first_field_is_told(self):
        self.assertEqual(fault(self.one.later, "one", sorts=None, rules=None), ("needs", 0))
        self.assertEqual(fault(self.one.later, sorts=[("x", 1)] * 2, traits=None, rules=[None]), ("traits", None))
        self.assertEqual(fault(self.one.later, sorts=[("x", 1)] * 2, functions=[None]), ("functions", 1))
        self.assertEqual(fault(self.one.later, sorts=[("x", 1)] * 2), ("names", None))


class Compared(unittest.TestCase):
    def test_equal(self):
        one = base()
        self.assertTrue(one == base())
        self.assertFalse(one != base())
        self.assertTrue(rich() == rich())
        fields = {"sorts": one.sorts, "traits": one.traits, "rules": one.rules}
        others = [Package("basf", **fields), Package("base", "a", **fields), Package("base", edition=2, **fields),
                  Package("base", functions=[Function("f")], **fields)]
        for field, items in (("sorts", one.sorts[::-1]), ("traits", ()), ("rules", one.rules[::-1]),
                             ("rules", (SoftRule(("base.show", INT)), one.rules[1])), ("sorts", (("int", 1), ("list", 1))),
                             ("traits", (("show", 1, True, ()),)), ("traits", (("show", 1, False, ("item",)),))):
            others.append(Package("base", **{**fields, field: items}))
        for other in (*others, shop(), None, True, "base", str(one), one.rules[0], ("base",)):
            self.assertFalse(one == other)
            self.assertFalse(other == one)
            self.assertTrue(one != other)

    def test_words(self):
        self.assertEqual(rich().words, ("rich.bag", "rich.box", "rich.eq", "rich.f", "rich.g", "rich.iter", "rich.nil",
                                        "rich.sure"))
        self.assertEqual(base().words, ("base.int", "base.list", "base.show"))

    def test_rules_are_equal_by_all_their_parts(self):
        one, other = Rule(("a.b", listed("T"))), Rule(("a.b", listed("U")))
        self.assertFalse(Package("a", rules=[one]) == Package("a", rules=[other]))


if __name__ == "__main__":
    unittest.main()
