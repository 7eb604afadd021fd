"""The words that packages name, and the complaints about words and forms: points 2, 3, 8, 9, 10, 19, 24, 25."""

import unittest

from helping import A, B, LOW_SORTS, LOW_TRAITS, f, g, rich
from nevermet.functions import Function
from nevermet.houses import House
from nevermet.packages import Package
from nevermet.rules import Rule, SoftRule
from nevermet.words import named, wrong_forms, wrong_words

KINDS = [*LOW_TRAITS, ("it", 1, False, ("item",)), ("map", 2, False, ("item", "key"))]
TELL = Function("tell", "T", wants=[("low.p", "T")], body=[("ask", ("low.p", "T"))])
LOW = Package("low", sorts=LOW_SORTS, traits=KINDS, functions=[TELL, Function("none")])


def house(*rules, functions=(), sorts=(("c", 0), ("d", 1)), traits=(), needs=("low",), others=()):
    """A house with the package `my` that has these rules and functions."""
    own = Package("my", *needs, sorts=sorts, traits=traits, rules=rules, functions=functions)
    return House(LOW, own, *others)


def words_of(*rules, **more):
    return wrong_words(house(*rules, **more), "my")


def forms_of(*rules, **more):
    assert words_of(*rules, **more) == ()
    return wrong_forms(house(*rules, **more), "my")


C = ("my.c",)


class Named(unittest.TestCase):
    def names(self, *rules, functions=()):
        return named(Package("my", rules=rules, functions=functions))

    def test_rules(self):
        rule = Rule(("z.t", ("b.f", "T"), "U"), ("y.u", "T"), ("y.u", ("b.k",)))
        self.assertEqual(self.names(rule), ("b.f", "b.k", "y.u", "z.t"))
        self.assertEqual(self.names(), ())
        self.assertEqual(self.names(Rule(("a.t", "T")), SoftRule(("a.t", "T"))), ("a.t",))

    def test_members(self):
        """A member word is named, the word of its trait is not, and the name of the member is not."""
        rule = Rule(("a.t", ("a.f", "T")), ("b.u", "T"), item=("c.list", ("b.v.item", "T")), key=("b.u.key", ("e.x",)))
        self.assertEqual(self.names(rule), ("a.f", "a.t", "b.u", "b.u.key", "b.v.item", "c.list", "e.x"))
        self.assertEqual(self.names(Rule(("a.t", "T"), item="T")), ("a.t",))
        self.assertEqual(self.names(Rule(("a.t", "T"), item=("b.v.item", ("b.v.key", "T")))), ("a.t", "b.v.item", "b.v.key"))

    def test_functions(self):
        """Wants and steps, but not the function's own word."""
        do = Function("do", "T", wants=[("a.t", ("b.f", "T")), ("a.m", ("c.k",))],
                      body=[("ask", ("a.u", ("d.k",))), ("call", "e.do", ("f.k",), "T"), ("call", "e.go")])
        self.assertEqual(self.names(functions=[do]), ("a.m", "a.t", "a.u", "b.f", "c.k", "d.k", "e.do", "e.go", "f.k"))
        self.assertEqual(self.names(functions=[Function("do")]), ())
        self.assertEqual(self.names(functions=[Function("do"), Function("go", body=[("call", "my.do")])]), ("my.do",))

    def test_both(self):
        self.assertEqual(named(rich()), (
            "base.int", "base.none", "base.tell", "rich.bag", "rich.eq", "rich.iter", "rich.iter.key", "rich.nil", "rich.sure"))
        self.assertEqual(named(package=LOW), ("low.p",))

    def test_once_and_ascending(self):
        rules = [Rule((word, ("b.k",), ("a.k",))) for word in ("c.t", "c.s", "c.t")]
        self.assertEqual(self.names(*rules), ("a.k", "b.k", "c.s", "c.t"))


class WrongWords(unittest.TestCase):
    def wrong(self, *rules, **more):
        """Whether there is just the complaint about the rule 0."""
        found = words_of(*rules, **more)
        self.assertIn(found, ((), (("word", "rules", 0),)))
        return found != ()

    def step(self, step, wants=(), **more):
        """Whether there is just the complaint about the function 0, with this step."""
        found = words_of(functions=[Function("do", "T", wants=wants, body=[step] if step else ())], **more)
        self.assertIn(found, ((), (("word", "functions", 0),)))
        return found != ()

    def test_what_is_declared(self):
        self.assertFalse(self.wrong(Rule(("low.p", f(g("T", C))), ("low.r", "T", A), ("low.m", C))))
        self.assertFalse(self.wrong(Rule(("my.t", "T"), ("my.k", "T")), traits=[("t", 1, False, ()), ("k", 1, True, ())]))
        self.assertEqual(wrong_words(House(LOW), "low"), ())

    def test_traits(self):
        for question in (("low.z", C), ("my.p", C), ("no.p", C), ("low.a", C), ("low.tell", C), ("low.f", C), ("lo.p", C),
                         ("low.r", C), ("low.p", C, C), ("low.m", C, C), ("low.map", C)):
            self.assertTrue(self.wrong(Rule(question)), question)
            self.assertTrue(self.wrong(Rule(("low.p", C), question)), question)
            self.assertTrue(self.wrong(Rule(("low.p", C), ("low.q", C), question)), question)
            self.assertTrue(self.step(("ask", question)), question)
            self.assertTrue(self.step(None, [question]), question)

    def test_sorts(self):
        for term in (("low.z",), ("my.a",), ("no.a",), ("low.p",), ("low.m",), ("low.tell",), ("low.none",), ("low.f",),
                     ("low.a", A), ("low.f", A, A), ("low.g", A), ("low.p", A), ("low.tell", A), ("my.d",), ("my.c", A)):
            for place in (term, f(term), g(A, f(term)), ("my.d", term)):
                self.assertTrue(self.wrong(Rule(("low.p", place))), place)
                self.assertTrue(self.wrong(Rule(("low.p", place), ("low.p", place))), place)
                self.assertTrue(self.wrong(Rule(("low.it", "T"), item=place)), place)
                self.assertTrue(self.step(("ask", ("low.p", place))), place)
                self.assertTrue(self.step(None, [("low.r", "T", place)]), place)
                self.assertTrue(self.step(("call", "low.tell", place)), place)
            if len(term) == 1:
                self.assertTrue(self.wrong(Rule(("low.p", C), ("low.r", C, term))), term)

    def test_names_that_end_one_another(self):
        """The words are compared as wholes, and the packages too."""
        others = [Package("y", sorts=[("c", 0)], traits=[("p", 1, False, ())]), Package("ow", sorts=[("a", 0)])]
        for word in ("y.c", "ow.a", "ow.c", "my.a"):
            self.assertTrue(self.wrong(Rule(("low.p", (word,))), others=others), word)
        self.assertTrue(self.wrong(Rule(("y.p", C)), others=others))
        self.assertFalse(self.wrong(Rule(("y.p", ("y.c",))), others=others, needs=("low", "y")))
        more = [("ap", 1, False, ("items",)), ("p", 1, False, ("item",))]
        self.assertTrue(self.wrong(Rule(("my.ap", "T"), items=("my.ap.item", "T")), traits=more))
        self.assertTrue(self.wrong(Rule(("my.p", "T"), item=("my.ap.item", "T")), traits=more))
        self.assertFalse(self.wrong(Rule(("my.p", "T"), item=("my.p.item", "T")), traits=more))

    def test_packages_that_are_not_in_the_view(self):
        far = Package("far", "low", sorts=[("k", 0)], traits=[("t", 1, False, ("item",))], functions=[Function("go")])
        for rule in (Rule(("far.t", C)), Rule(("low.p", ("far.k",))), Rule(("low.p", C), ("low.p", ("far.k",))),
                     Rule(("low.p", C), ("far.t", C)), Rule(("low.it", C), item=("far.k",)),
                     Rule(("low.it", C), item=("far.t.item", C))):
            self.assertTrue(self.wrong(rule, others=[far]), rule.head)
            self.assertFalse(self.wrong(rule, others=[far], needs=("far",)), rule.head)
        for step in (("ask", ("far.t", C)), ("ask", ("low.p", ("far.k",))), ("call", "far.go")):
            self.assertTrue(self.step(step, others=[far]), step)
            self.assertFalse(self.step(step, others=[far], needs=("far",)), step)

    def test_what_is_seen_behind_a_package(self):
        far = Package("far", "low")
        self.assertFalse(self.wrong(Rule(("low.p", C)), needs=("far",), others=[far]))
        self.assertTrue(self.wrong(Rule(("low.p", C)), needs=()))

    def test_members(self):
        def wrong(expression):
            return self.wrong(Rule(("low.it", f("T")), item=expression))
        for expression in ("T", A, f(A), ("low.it.item", "T"), f(("low.it.item", f("T"))), ("low.map.key", "T", A),
                           ("low.it.item", ("low.it.item", "T")), ("low.map.item", ("low.it.item", "T"), "T")):
            self.assertFalse(wrong(expression), expression)
        for expression in (("low.it.key", "T"), ("low.p.item", "T"), ("low.m.item", "T"), ("low.z.item", "T"),
                           ("low.f.item", "T"), ("low.tell.item", "T"), ("no.it.item", "T"), ("low.map.item", "T"),
                           ("low.it.item", "T", "T"), ("low.map.map", "T", "T"), ("low.it.item", ("low.z",)),
                           ("low.it.item", ("low.it.key", "T")), f(("low.it.it", "T")), ("low.it", "T"), ("low.it",)):
            self.assertTrue(wrong(expression), expression)

    def test_members_of_own_traits_with_like_names(self):
        traits = [("t", 1, False, ("key",)), ("it", 1, False, ("item",))]
        self.assertTrue(self.wrong(Rule(("my.it", "T"), item=("my.t.item", "T")), traits=traits))
        self.assertTrue(self.wrong(Rule(("my.it", "T"), item=("my.it.key", "T")), traits=traits))
        self.assertFalse(self.wrong(Rule(("my.it", "T"), item=("my.t.key", "T")), traits=traits))

    def test_marks_in_functions(self):
        self.assertTrue(self.step(("ask", ("low.m", "T"))))
        self.assertFalse(self.step(("ask", ("low.p", "T"))))
        self.assertFalse(self.step(None, [("low.m", "T"), ("low.p", "T")]))

    def test_calls(self):
        self.assertFalse(self.step(("call", "low.tell", f("T"))))
        self.assertFalse(self.step(("call", "low.none")))
        for step in (("call", "low.none", A), ("call", "low.tell"), ("call", "low.tell", A, A), ("call", "low.p", A),
                     ("call", "low.f", A), ("call", "low.a"), ("call", "low.go"), ("call", "no.do"), ("call", "my.c"),
                     ("call", "my.do", A), ("call", "my.go")):
            self.assertTrue(self.step(step), step)

    def test_calls_of_own_functions(self):
        """Of the functions of the same package only those before this one may be called."""
        none = Function("a")
        for word, wrong in [("my.a", False), ("my.b", True), ("my.c", True)]:
            functions = [none, Function("b", body=[("call", word)]), Function("c")]
            self.assertEqual(words_of(functions=functions, sorts=()), (("word", "functions", 1),) if wrong else ())
        functions = [Function("a", body=[("call", "my.c")]), none, Function("c")]
        self.assertEqual(words_of(functions=[functions[0], functions[2]], sorts=()), (("word", "functions", 0),))
        other = Package("other", functions=[Function("z", body=[]), Function("y")])
        self.assertEqual(words_of(functions=[Function("x", body=[("call", "other.y"), ("call", "other.z")])],
                                  needs=("other",), others=[other]), ())

    def test_each_step_and_want(self):
        right, wrong = ("ask", ("low.p", A)), ("ask", ("low.z", A))
        for body in ([right, wrong], [wrong, right], [right, right, wrong]):
            self.assertEqual(words_of(functions=[Function("do", body=body)]), (("word", "functions", 0),))
        wants = [("low.p", A), ("low.z", A)]
        self.assertEqual(words_of(functions=[Function("do", wants=wants)]), (("word", "functions", 0),))

    def test_the_order_of_the_complaints(self):
        wrong, right = Rule(("low.z", "T"), ("low.y", "T")), Rule(("low.p", C))
        bad, good = Function("x", wants=[("low.z", A)], body=[("call", "no.no")]), Function("y")
        functions = [bad, good, Function("z", body=[("call", "my.z")])]
        self.assertEqual(words_of(wrong, right, wrong, right, wrong, functions=functions), (
            ("word", "rules", 0), ("word", "rules", 2), ("word", "rules", 4), ("word", "functions", 0),
            ("word", "functions", 2)))

    def test_arguments(self):
        self.assertEqual(wrong_words(name="my", house=house()), ())
        self.assertEqual(wrong_forms(name="my", house=house()), ())


class WrongForms(unittest.TestCase):
    def test_marks(self):
        for rule, wrong in [(Rule(("low.m", C)), False), (SoftRule(("low.m", C)), True), (SoftRule(("low.p", C)), False),
                            (Rule(("low.m", C), ("low.n", C)), False), (Rule(("low.m", C), ("low.p", C)), True),
                            (Rule(("low.m", C), ("low.n", C), ("low.p", C)), True),
                            (SoftRule(("low.m", C), ("low.p", C)), True), (Rule(("low.p", C), ("low.m", C)), False)]:
            self.assertEqual(forms_of(rule), (("mark", 0),) if wrong else ())

    def test_names_of_members(self):
        for rule, wrong in [(Rule(("low.it", C), item=A), False), (Rule(("low.it", C)), True),
                            (Rule(("low.it", C), key=A), True), (Rule(("low.it", C), item=A, key=A), True),
                            (Rule(("low.p", C)), False), (Rule(("low.p", C), item=A), True), (Rule(("low.m", C), item=A), True),
                            (Rule(("low.map", C, A), key=A, item=B), False), (Rule(("low.map", C, A), item=B), True),
                            (Rule(("low.map", C, A), item=A, keys=B), True)]:
            self.assertEqual(forms_of(rule), (("member", 0),) if wrong else ())

    def test_what_members_ask(self):
        asked = ("low.it", "T")

        def wrong(expression, *conditions):
            found = forms_of(Rule(("low.it", ("my.d", g("T", "U"))), *conditions, item=expression))
            self.assertIn(found, ((), (("member", 0),)))
            return found != ()
        self.assertFalse(wrong(("low.it.item", "T"), asked))
        self.assertFalse(wrong(("low.it.item", "T"), ("low.p", "U"), asked))
        self.assertTrue(wrong(("low.it.item", "T")))
        self.assertTrue(wrong(("low.it.item", "U"), asked))
        self.assertTrue(wrong(("low.it.item", "T"), ("low.p", "T")))
        self.assertTrue(wrong(("low.it.item", f("T")), asked))
        self.assertFalse(wrong(("low.map.key", "U", "T"), ("low.map", "U", "T")))
        self.assertTrue(wrong(("low.map.key", "T", "U"), ("low.map", "U", "T")))
        self.assertFalse(wrong(g(("low.it.item", "T"), ("low.map.key", "U", "T")), asked, ("low.map", "U", "T")))
        self.assertTrue(wrong(g(("low.it.item", "T"), ("low.map.key", "U", "T")), asked))
        self.assertTrue(wrong(g("T", f(("low.it.item", "U"))), asked))

    def test_members_within_one_another(self):
        rule = Rule(("low.it", ("my.d", "T")), ("low.it", "T"), item=("low.it.item", ("low.it.item", "T")))
        self.assertEqual(forms_of(rule), (("member", 0),))

    def test_places(self):
        for rule, wrong in [(Rule(("low.p", C)), False), (Rule(("low.p", A)), True), (Rule(("low.p", "T")), True),
                            (Rule(("low.r", A, C)), False), (Rule(("low.r", "T", C)), True), (Rule(("low.r", C, "T")), False),
                            (Rule(("low.p", f(C))), True), (Rule(("my.t", "T")), False), (SoftRule(("my.t", A)), False)]:
            self.assertEqual(forms_of(rule, traits=[("t", 1, False, ())]), (("place", 0),) if wrong else ())

    def test_all_at_one_rule(self):
        self.assertEqual(forms_of(SoftRule(("low.m", "T"), item="T")), (("mark", 0), ("member", 0), ("place", 0)))
        self.assertEqual(forms_of(SoftRule(("low.m", A))), (("mark", 0), ("place", 0)))
        self.assertEqual(forms_of(SoftRule(("low.m", C), item=A)), (("mark", 0), ("member", 0)))
        self.assertEqual(forms_of(Rule(("low.it", A))), (("member", 0), ("place", 0)))

    def test_by_the_index(self):
        rules = [Rule(("low.p", A)), Rule(("low.p", C)), SoftRule(("low.m", A)), Rule(("low.it", C)), Rule(("low.m", C)),
                 SoftRule(("low.n", C))]
        self.assertEqual(forms_of(*rules), (("place", 0), ("mark", 2), ("place", 2), ("member", 3), ("mark", 5)))

    def test_the_lower_package(self):
        self.assertEqual(wrong_forms(House(LOW), "low"), ())


if __name__ == "__main__":
    unittest.main()
