import unittest

from helping import FULL, INT, NIL, OVERFULL, PLAIN_VALUES, listed, pair, raised, tower, tree, triple
from nevermet.errors import InvalidRule, NeverError
from nevermet.functions import Function
from nevermet.packages import Package
from nevermet.rules import Rule, SoftRule, beneath, is_expression
from nevermet.terms import is_question, is_term, same

HEAD = ("base.show", listed("T"))
ASK = ("base.show", "T")


def reason(head, *conditions, **members):
    """The reason that every way of making a rule tells."""
    found = {raised(InvalidRule, kind, head, *conditions, **members).reason for kind in (Rule, SoftRule)}
    for kind in (Rule, SoftRule):
        found.add(raised(InvalidRule, kind.of, head, conditions, members).reason)
        found.add(raised(InvalidRule, kind.of, head, list(conditions), dict(members)).reason)
    assert len(found) == 1, found
    return found.pop()


class Made(unittest.TestCase):
    def test_properties(self):
        rule = Rule(("a.b", "T", listed("U"), "X"), ("a.c", "U"), ("a.d", NIL, "T"), item="T", key=listed("U"))
        self.assertEqual(rule.head, ("a.b", "T", listed("U"), "X"))
        self.assertEqual(rule.conditions, (("a.c", "U"), ("a.d", NIL, "T")))
        self.assertEqual(rule.members, {"key": listed("U"), "item": "T"})
        self.assertEqual((rule.soft, rule.trait, rule.places), (False, "a.b", ("T", listed("U"), "X")))
        self.assertEqual(rule.first_bare, 0)
        plain = Rule(HEAD)
        self.assertEqual((plain.conditions, plain.members, plain.first_bare), ((), {}, None))
        self.assertEqual(Rule(("a.b", INT, "T")).first_bare, 1)
        self.assertEqual(Rule(("a.b", INT, listed("T"), "U")).first_bare, 2)
        self.assertEqual(Rule(head=HEAD).head, HEAD)
        with self.assertRaises(AttributeError):
            rule.head = HEAD

    def test_soft(self):
        soft = SoftRule(HEAD, ASK, item="T")
        self.assertIsInstance(soft, Rule)
        self.assertEqual((soft.soft, soft.head, soft.conditions, soft.members), (True, HEAD, (ASK,), {"item": "T"}))
        self.assertEqual((soft.trait, soft.places, soft.first_bare), ("base.show", (listed("T"),), None))

    def test_of(self):
        for kind in (Rule, SoftRule):
            expected = kind(HEAD, ASK, item="T", key=INT)
            for conditions in ([ASK], (ASK,)):
                found = kind.of(HEAD, conditions, {"key": INT, "item": "T"})
                self.assertEqual(found, expected)
                self.assertIs(found.__class__, kind)
            self.assertEqual(kind.of(head=HEAD, conditions=(), members={}), kind(HEAD))
        self.assertIn("of", vars(SoftRule))

    def test_what_was_passed_in_does_not_change_it(self):
        conditions, members = [ASK], {"item": "T"}
        rule = Rule.of(HEAD, conditions, members)
        conditions.append(ASK)
        members["key"] = INT
        self.assertEqual((rule.conditions, rule.members), ((ASK,), {"item": "T"}))

    def test_what_was_taken_out_does_not_change_it(self):
        rule = Rule(HEAD, ASK, item="T")
        rule.members["key"] = INT
        rule.members.clear()
        self.assertEqual(rule.members, {"item": "T"})
        rule.fills(("base.show", listed(INT)))["T"] = NIL
        self.assertEqual(rule.fills(("base.show", listed(INT))), {"T": INT})


class Wrong(unittest.TestCase):
    def test_head(self):
        things = [thing for thing in PLAIN_VALUES if not is_question(thing)]
        for thing in [*things, ("a.b",), ("a.b", OVERFULL), ("a.b", tower(6)), ("a.b", "T", "T", "T", "T"),
                      ["a.b", "T"], ("a.b.c", "T"), Rule(HEAD)]:
            self.assertEqual(reason(thing), "head")
        self.assertIsInstance(raised(InvalidRule, Rule, None), NeverError)
        for head in (("a.b", FULL, FULL, FULL), ("a.b", tower(5)), ("a.b", "T")):
            self.assertEqual(Rule(head).head, head)

    def test_conditions(self):
        self.assertEqual(Rule(HEAD, ASK, ASK, ASK, ASK).conditions, (ASK,) * 4)
        self.assertEqual(reason(HEAD, ASK, ASK, ASK, ASK, ASK), "conditions")
        for thing in (None, True, 1, "T", INT, [], {}, ("base.show",), ["base.show", "T"], ("base.show", "t"), "base.show",
                      ("base.show", OVERFULL), ("base.show", tower(6)), ("a.b", "T", "T", "T", "T"), Rule(HEAD)):
            self.assertEqual(reason(HEAD, thing), "conditions", thing)
            self.assertEqual(reason(HEAD, ASK, ASK, ASK, thing), "conditions", thing)

    def test_members(self):
        for name in ("abcdefghi", "A", "a_b", "item1", "T", "_a"):
            self.assertEqual(reason(HEAD, **{name: "T"}), "members", name)
        for name in ("self", "head", "", "a b", "a.b", "a\n", "cls"):
            for kind in (Rule, SoftRule):
                if name == "cls":
                    self.assertEqual(kind.of(HEAD, (), {name: "T"}).members, {"cls": "T"})
                else:
                    self.assertEqual(raised(InvalidRule, kind.of, HEAD, (), {name: "T"}).reason, "members")
        for thing in (None, True, 1, "", "t", "item", [], {}, (), ["base.list", "T"], ("base.iter.item",), OVERFULL,
                      tower(6), Rule(HEAD)):
            self.assertEqual(reason(HEAD, item=thing), "members", thing)
        for thing in ("T", INT, FULL, tower(5), ("base.iter.item", "T"), ("base.eq.item", "T", INT, "T")):
            self.assertEqual(Rule(HEAD, item=thing).members, {"item": thing})
        self.assertEqual(reason(HEAD, conditions="T"), "members")
        names = {"members": "T", "rule": "T", "if": "T", "with": "T", "abcdefgh": "T"}
        self.assertEqual(Rule(HEAD, **names).members, names)

    def test_of_what_is_no_row_and_no_dict(self):
        for kind in (Rule, SoftRule):
            for thing in (None, True, "", "T", {}, {ASK: 1}):
                self.assertEqual(raised(InvalidRule, kind.of, HEAD, thing, {}).reason, "conditions")
            for thing in (None, True, "", [], (), [("item", "T")]):
                self.assertEqual(raised(InvalidRule, kind.of, HEAD, (), thing).reason, "members")

    def test_variables(self):
        self.assertEqual(reason(HEAD, ("base.show", "U")), "variables")
        self.assertEqual(reason(HEAD, ASK, ("base.eq", "T", listed("U"))), "variables")
        self.assertEqual(reason(HEAD, item="U"), "variables")
        self.assertEqual(reason(HEAD, item=("base.iter.item", listed("U"))), "variables")
        self.assertEqual(reason(HEAD, key="T", item=pair("T", "U")), "variables")
        self.assertEqual(Rule(("a.b", "U", listed("T")), ("a.c", "U", "T"), item=pair("T", "U")).soft, False)

    def test_pieces(self):
        head = ("a.b", pair(listed("T"), INT), "U")
        for place in (pair(listed("T"), INT), listed("T"), "T", INT, "U", NIL, ("c.d",)):
            self.assertEqual(Rule(head, ("a.c", place)).conditions, (("a.c", place),))
            self.assertEqual(Rule(head, ("a.c", "T", place, "U")).conditions, (("a.c", "T", place, "U"),))
        for place in (listed("U"), listed(INT), pair(INT, listed("T")), listed(listed("T")), pair("T", INT), listed(NIL)):
            self.assertEqual(reason(head, ("a.c", place)), "pieces")
            self.assertEqual(reason(head, ("a.c", "T"), ("a.c", "T", place)), "pieces")
        self.assertEqual(reason(("a.b", "T"), ("a.c", ("a.b", "T"))), "pieces")

    def test_members_need_be_no_pieces(self):
        self.assertEqual(Rule(HEAD, item=pair("T", listed(NIL))).members, {"item": pair("T", listed(NIL))})

    def test_the_first_reason_is_told(self):
        bad_ask, new, large = ("base.show", "t"), ("base.show", "U"), ("base.show", listed(INT))
        self.assertEqual(reason("T", bad_ask, item="t"), "head")
        self.assertEqual(reason("T", new, bad="t"), "head")
        self.assertEqual(raised(InvalidRule, Rule.of, "T", (), {"self": "T"}).reason, "head")
        self.assertEqual(reason(HEAD, bad_ask, item="t"), "conditions")
        self.assertEqual(reason(HEAD, new, new, new, new, new, item="t"), "conditions")
        self.assertEqual(raised(InvalidRule, SoftRule.of, HEAD, [bad_ask], {"head": "T"}).reason, "conditions")
        self.assertEqual(reason(HEAD, new, large, item="t"), "members")
        self.assertEqual(raised(InvalidRule, Rule.of, HEAD, [new], {"head": "T"}).reason, "members")
        self.assertEqual(reason(HEAD, large, new), "variables")
        self.assertEqual(reason(HEAD, large, item="U"), "variables")
        self.assertEqual(reason(HEAD, large, item="T"), "pieces")


class Compared(unittest.TestCase):
    def test_equal(self):
        rule = Rule(HEAD, ASK, item="T", key=INT)
        self.assertTrue(rule == Rule(HEAD, ASK, key=INT, item="T"))
        self.assertFalse(rule != Rule(HEAD, ASK, key=INT, item="T"))
        for other in (Rule(HEAD, ASK, ASK, item="T", key=INT), Rule(HEAD, item="T", key=INT), Rule(HEAD, ASK, item="T"),
                      Rule(HEAD, ASK, item="T", key=NIL), Rule(HEAD, ASK, item="T", kex=INT),
                      Rule(("base.shaw", listed("T")), ASK, item="T", key=INT),
                      Rule(HEAD, ("base.shaw", "T"), item="T", key=INT),
                      SoftRule(HEAD, ASK, item="T", key=INT), HEAD, None, True, str(rule), (HEAD, (ASK,)), Package("a"),
                      Function("a"), {"item": "T", "key": INT}):
            self.assertFalse(rule == other)
            self.assertFalse(other == rule)
            self.assertTrue(rule != other)
        self.assertTrue(SoftRule(HEAD) == SoftRule(HEAD))
        self.assertFalse(SoftRule(HEAD) == Rule(HEAD))
        self.assertFalse(Rule(HEAD) == SoftRule(HEAD))
        self.assertFalse(Rule(HEAD) == Rule(("base.show", listed("U"))))

    def test_order_of_conditions_counts(self):
        one, other = ("a.c", "T"), ("a.d", "T")
        self.assertFalse(Rule(HEAD, one, other) == Rule(HEAD, other, one))

    def test_fills(self):
        rule = Rule(("a.b", "T", listed("U")), ("a.c", "U", "T"), ("a.d", NIL))
        self.assertEqual(rule.fills(("a.b", INT, listed(NIL))), {"T": INT, "U": NIL})
        self.assertEqual(rule.fills(question=("a.b", "U", listed("T"))), {"T": "U", "U": "T"})
        self.assertEqual(rule.fills(("a.b", "T", listed("U"))), {"T": "T", "U": "U"})
        for question in (("a.c", INT, listed(NIL)), ("a.b", INT), ("a.b", INT, listed(NIL), INT), ("a.b", INT, "U"),
                         ("a.b", INT, NIL), ("b.a", INT, listed(NIL))):
            self.assertIsNone(rule.fills(question))
            self.assertIsNone(rule.conditions_for(question))
        self.assertEqual(rule.conditions_for(("a.b", INT, listed(NIL))), (("a.c", NIL, INT), ("a.d", NIL)))
        self.assertEqual(rule.conditions_for(question=("a.b", "U", listed("T"))), (("a.c", "T", "U"), ("a.d", NIL)))
        self.assertEqual(Rule(("a.b", INT)).conditions_for(("a.b", INT)), ())
        self.assertEqual(Rule(("a.b", INT)).fills(("a.b", INT)), {})
        twice = Rule(("a.b", "T", "T"))
        self.assertEqual(twice.fills(("a.b", listed("A"), listed("A"))), {"T": listed("A")})
        self.assertIsNone(twice.fills(("a.b", "A", "B")))
        self.assertTrue(same(Rule(HEAD, ASK).conditions_for(("base.show", tower(9000)))[0], ("base.show", tower(8999))))

    def test_text(self):
        self.assertEqual(str(Rule(HEAD)), "rule base.show(base.list(T))")
        self.assertEqual(str(SoftRule(HEAD, ASK, key=INT, item="T")),
                         "soft rule base.show(base.list(T)) if base.show(T) with item = T, key = base.int")

    def test_beneath(self):
        def see(one, other, first, second):
            for kind in (Rule, SoftRule):
                self.assertIs(beneath(kind(one), Rule(other)), first)
                self.assertIs(beneath(Rule(other), kind(one)), second)

        see(("a.b", INT), ("a.b", "T"), True, False)
        see(("a.b", listed("T")), ("a.b", "T"), True, False)
        see(("a.b", "T"), ("a.b", "U"), False, False)
        see(("a.b", INT), ("a.b", INT), False, False)
        see(("a.b", "T", "T"), ("a.b", "T", "U"), True, False)
        see(("a.b", "U", "T"), ("a.b", "T", "U"), False, False)
        see(("a.b", INT), ("a.c", "T"), False, False)
        see(("a.b", INT), ("b.b", "T"), False, False)
        see(("a.b", INT), ("a.b", "T", "U"), False, False)
        see(("a.b", INT, "T"), ("a.b", "T", INT), False, False)
        see(("a.b", INT, INT), ("a.b", "T", INT), True, False)
        self.assertIs(beneath(rule=Rule(("a.b", INT)), other=Rule(("a.b", "T"), ("a.c", "T"))), True)


class Expressions(unittest.TestCase):
    def test_right(self):
        for thing in ("T", "Z999", INT, listed("T"), FULL, tower(5), ("a.b.c", "T"), ("a.b.c", INT, "T"),
                      ("a.b.c", "T", "T", "T"), listed(("a.b.c", "T")), ("a.b.c", ("a.b.c", listed(("a.b.c", INT)))),
                      tree(4, "T"), triple(("a.b.c", "T"), "T", ("a.b.d", "T"))):
            self.assertIs(is_expression(thing), True, thing)
        self.assertIs(is_expression(thing=("a.b.c", "T")), True)

    def test_wrong(self):
        for thing in (("a.b.c",), ("a.b.c", "T", "T", "T", "T"), ("a.b.c.d", "T"), ("a.b.self", "T"), ("a.head.c", "T"),
                      ("a.b.C", "T"), ("a.b.", "T"), ("a.b.c", "t"), ("a.b.c", None), ("a.b.c", ["T"]), ["a.b.c", "T"],
                      listed(("a.b.c",)), "a.b.c", "T.U", None, True, 1, "", (), [], {}, ("a", "T"),
                      ("a.b", "T", "T", "T", "T"), Rule(HEAD)):
            self.assertIs(is_expression(thing), False, thing)
        for thing in PLAIN_VALUES:
            self.assertIs(is_expression(thing), is_term(thing))

    def test_limits(self):
        def member(deep, inner):
            return inner if deep == 0 else ("a.b.c", member(deep - 1, inner))

        self.assertIs(is_expression(member(5, INT)), True)
        self.assertIs(is_expression(member(6, INT)), False)
        self.assertIs(is_expression(member(6, "T")), False)
        full = ("a.b.c", tree(3), tree(3), tree(3))
        self.assertIs(is_expression(full), True)
        self.assertIs(is_expression(OVERFULL), False)
        more = triple(tree(2), tree(2), triple(INT, INT, listed(INT)))
        self.assertIs(is_expression(("a.b.c", tree(3), tree(3), more)), False)
        self.assertIs(is_expression(tree(5)), False)


if __name__ == "__main__":
    unittest.main()
