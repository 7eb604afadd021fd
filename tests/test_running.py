"""Functions that are run, by handing on and by copies: points 25 and 26."""

import random
import unittest
from collections import Counter

from helping import A, B, INT, LOW_SORTS, LOW_TRAITS, base, f, listed, raised, random_ground, shop, tower
from looking import random_looked, random_seeing
from nevermet.errors import NoAnswer, TooMany, UnknownWord
from nevermet.evidence import evidence
from nevermet.functions import Function
from nevermet.houses import House
from nevermet.looks import is_let_by, look
from nevermet.packages import Package
from nevermet.rules import Rule, SoftRule
from nevermet.running import run_copied, run_handed

T, U = "T", "U"
ITEM = ("shop.item",)


def show(term):
    return ("base.show", term)


def run(house, word, *terms):
    """What both ways to run return, or the error that both raise: (its class, what it says)."""
    found = []
    for call in (run_handed, run_copied):
        try:
            found.append(call(house, word, *terms))
        except (UnknownWord, NoAnswer, TooMany) as error:
            found.append((error.__class__, *vars(error).values()))
    assert repr(found[0]) == repr(found[1]), found
    return found[0]


def tell(*functions, rules=(), sorts=()):
    """A house with a package of these functions, which is let by."""
    house = House(base(), shop(), Package("tell", "base", sorts=sorts, rules=rules, functions=functions,
                                          traits=[("t", 1, False, ()), ("m", 1, True, ()), ("n", 1, True, ())]))
    assert look(house, "tell")[0] == "let by", look(house, "tell")
    return house


class Asks(unittest.TestCase):
    def test_the_example(self):
        house = tell(Function("twice", T, wants=[show(T)], body=[("ask", show(listed(T)))]))
        expected = [evidence(house, show(listed(ITEM)))]
        self.assertEqual(run(house, "tell.twice", ITEM), expected)
        self.assertEqual(run_handed(house, "tell.twice", ITEM), expected)
        self.assertEqual(run_copied(house, "tell.twice", ITEM), expected)
        self.assertIsInstance(run_handed(house, "tell.twice", ITEM), list)

    def test_functions_without_steps(self):
        house = tell(Function("none"), Function("wants", T, wants=[show(T)]))
        self.assertEqual(run(house, "tell.none"), [])
        self.assertEqual(run(house, "tell.wants", INT), [])

    def test_in_order(self):
        house = tell(Function("many", T, U, wants=[show(T)], body=[
            ("ask", show(listed(T))), ("ask", show(INT)), ("ask", show(listed(listed(T)))), ("ask", show(T))]))
        for term in (INT, ITEM, listed(ITEM)):
            self.assertEqual(run(house, "tell.many", term, ITEM), [
                evidence(house, show(one)) for one in (listed(term), INT, listed(listed(term)), term)])

    def test_what_is_called(self):
        one = Function("one", T, wants=[show(T)], body=[("ask", show(listed(T)))])
        two = Function("two", U, wants=[show(U)], body=[
            ("call", "tell.one", U), ("ask", show(U)), ("call", "tell.one", listed(U)), ("call", "tell.one", INT)])
        three = Function("three", T, wants=[show(T)], body=[("call", "tell.two", listed(T)), ("ask", show(T))])
        house = tell(one, two, three)
        for term in (INT, ITEM):
            inner = listed(term)
            self.assertEqual(run(house, "tell.three", term), [evidence(house, show(one)) for one in (
                listed(inner), inner, listed(listed(inner)), listed(INT), term)])

    def test_functions_of_other_packages(self):
        """A function of a package that is seen knows nothing of the rules of the one that calls it."""
        one = Package("one", "base", functions=[Function("fun", T, wants=[show(T)], body=[
            ("ask", show(listed(T))), ("ask", show(T))])])
        two = Package("two", "one", "base", sorts=[("c", 0), ("w", 1)], rules=[
            Rule(show(("two.c",))), Rule(show(("two.w", T)), show(T))],
            functions=[Function("gun", U, wants=[show(U)], body=[
                ("call", "one.fun", ("two.c",)), ("call", "one.fun", ("two.w", U))])])
        house = House(base(), shop(), one, two)
        self.assertTrue(all(is_let_by(house, name) for name in house.names))
        c, w = ("two.c",), lambda term: ("two.w", term)
        self.assertEqual(run(house, "two.gun", ITEM), [evidence(house, show(one)) for one in (
            listed(c), c, listed(w(ITEM)), w(ITEM))])

    def test_entries_of_marks(self):
        """They are those of the house, also where the resolution takes another rule or a want is a mark."""
        rules = [Rule(("tell.m", listed(T)), ("tell.n", T)), Rule(("tell.m", T)), Rule(("tell.n", T), ("tell.n", T)),
                 Rule(("tell.t", listed(T)), ("tell.m", listed(T)), ("tell.n", T)), Rule(("tell.t", ("tell.c",)),
                                                                                         ("tell.m", ("tell.c",)))]
        house = tell(Function("fun", T, wants=[("tell.n", T)], body=[("ask", ("tell.t", listed(T)))]),
                     Function("gun", T, wants=[("tell.t", T), ("tell.m", T)], body=[
                         ("ask", ("tell.t", T)), ("call", "tell.fun", ("tell.c",)), ("ask", ("tell.t", ("tell.c",)))]),
                     rules=rules, sorts=[("c", 0)])
        c = ("tell.c",)
        self.assertEqual(run(house, "tell.fun", INT), [evidence(house, ("tell.t", listed(INT)))])
        self.assertEqual(run(house, "tell.gun", c), [evidence(house, ("tell.t", one)) for one in (c, listed(c), c)])
        self.assertEqual(run(house, "tell.gun", listed(c)), [
            evidence(house, ("tell.t", one)) for one in (listed(c), listed(c), c)])

    def test_a_condition_that_needs_another_one(self):
        """The round of the first condition goes by that of the second one."""
        c = ("tell.c",)
        rules = [Rule(("tell.t", listed(listed(T))), ("tell.t", listed(T)), ("tell.t", T)), Rule(("tell.t", listed(c)), ("tell.t", c)),
                 Rule(("tell.t", c))]
        house = tell(Function("fun", body=[("ask", ("tell.t", listed(listed(c))))]), rules=rules, sorts=[("c", 0)])
        self.assertEqual([[entry[1] for entry in paper] for paper in run(house, "tell.fun")], [[3, 2, 1]])

    def test_answers_that_are_softer_above(self):
        """The rule that resolves is the answer: the hard one, or a soft one that is firm."""
        c, d = ("tell.c",), ("tell.d",)
        rules = [SoftRule(("tell.t", T)), Rule(("tell.t", listed(T)))]
        house = tell(Function("fun", T, body=[("ask", ("tell.t", listed(T))), ("ask", ("tell.t", c))]),
                     Function("gun", T, wants=[("tell.t", T)], body=[("ask", ("tell.t", T))]),
                     rules=rules, sorts=[("c", 0), ("d", 0)])
        self.assertEqual([[entry[2] for entry in paper] for paper in run(house, "tell.fun", d)],
                         [[("tell", 1)], [("tell", 0)]])
        self.assertEqual([run(house, "tell.gun", one)[0][0][2] for one in (d, listed(d))], [("tell", 0), ("tell", 1)])


class Errors(unittest.TestCase):
    def test_unknown_words(self):
        house = tell(Function("fun", T, wants=[show(T)]))
        for word in ("tell.no", "no.fun", "base.show", "base.int", "tell.m"):
            self.assertEqual(run(house, word, INT), (UnknownWord, word))
            self.assertEqual(raised(UnknownWord, run_handed, house=house, word=word).word, word)

    def test_wants_in_order(self):
        house = tell(Function("fun", T, U, wants=[show(T), show(U), ("tell.m", T)]), rules=[Rule(("tell.m", INT))],
                     sorts=[("no", 0)])
        no = ("tell.no",)
        self.assertEqual(run(house, "tell.fun", no, no), (NoAnswer, show(no)))
        self.assertEqual(run(house, "tell.fun", INT, listed(no)), (NoAnswer, show(listed(no))))
        self.assertEqual(run(house, "tell.fun", ITEM, INT), (NoAnswer, ("tell.m", ITEM)))
        self.assertEqual(run(house, "tell.fun", INT, INT), [])

    def test_wants_of_functions_called_are_not_asked(self):
        """Only those of the function that is run are; the others are resolved by them."""
        one = Function("one", T, wants=[show(listed(T))])
        house = tell(one, Function("two", T, wants=[show(T)], body=[("call", "tell.one", T), ("call", "tell.one", T)]))
        self.assertEqual(run(house, "tell.two", INT), [])

    def test_three_hundred_reached(self):
        digits = [("num." + letter,) for letter in "abcdefg"]
        rules = []
        for one, other in zip(digits, digits[1:]):
            rules.append(Rule(("num.t", T, U, one), ("num.t", T, U, other)))
            rules.append(Rule(("num.t", T, one, digits[6]), ("num.t", T, other, digits[0])))
            rules.append(Rule(("num.t", one, digits[6], digits[6]), ("num.t", other, digits[0], digits[0])))
        rules += [Rule(("num.t", *[digits[6]] * 3)), Rule(("num.u", T), ("num.t", digits[0], digits[0], digits[0]))]
        # Of the 343 numbers 300 are left behind this one: 43 is 61 to the base seven.
        start, late = ("num.t", digits[0], digits[6], digits[1]), ("num.t", digits[0], digits[6], digits[0])
        house = House(Package("num", sorts=[(letter, 0) for letter in "abcdefg"],
                              traits=[("t", 3, False, ()), ("u", 1, False, ()), ("w", 1, False, ())],
                              rules=rules + [Rule(("num.w", T))], functions=[
                                  Function("fun", T, wants=[("num.w", T)], body=[("ask", start), ("ask", late)]),
                                  Function("gun", T, wants=[("num.u", T), ("num.w", T)]),
                                  Function("hun", T, body=[("ask", start)])]))
        self.assertTrue(is_let_by(house, "num"), look(house, "num"))
        self.assertEqual(len(run(house, "num.hun", digits[0])[0]), 300)
        self.assertEqual(run(house, "num.fun", digits[0]), (TooMany, 300))
        self.assertEqual(run(house, "num.gun", digits[0]), (TooMany, 300))

    def test_four_hundred_steps(self):
        """Asks and calls count, those of functions called, too; the 401st one is not looked at."""
        ask = ("ask", show(INT))
        functions = [Function("a", T, body=[ask] * 7)]
        for name, other in zip("bc", "ab"):
            functions.append(Function(name, T, body=[("call", f"tell.{other}", T)] * 7))
        # Function c does 7 calls of b, which do 7 calls of a: 7 + 49 + 343 = 399 steps.
        for name, body, many in [("d", [("call", "tell.c", T)], 400), ("e", [ask, ("call", "tell.c", T)], 401),
                                 ("f", [("call", "tell.c", T), ask], 401),
                                 ("g", [("call", "tell.c", T), ("call", "tell.a", tower(5, T))], 401),
                                 ("h", [("call", "tell.c", T), ("ask", show(listed(INT)))], 401)]:
            house = tell(*functions, Function(name, T, body=body))
            found = run(house, f"tell.{name}", tower(63))
            self.assertEqual(found if many > 400 else len(found), (TooMany, 400) if many > 400 else 343, name)
        self.assertEqual(len(run(tell(*functions), "tell.c", INT)), 343)

    def test_sixty_four_symbols(self):
        """A term of just 64 symbols may be passed by a call, one of 65 not; what is run may get larger ones."""
        one = Function("one", T, U, body=[])
        two = Function("two", T, wants=[show(T)], body=[
            ("ask", show(T)), ("call", "tell.one", listed(T), INT), ("ask", show(listed(T)))])
        house = tell(one, two)
        self.assertEqual(len(run(house, "tell.two", tower(62))), 2)
        self.assertEqual(run(house, "tell.two", tower(63)), (TooMany, 64))
        self.assertEqual(run(house, "tell.one", tower(90), INT), [])
        house = tell(Function("one", T, U), Function("two", T, U, body=[("call", "tell.one", U, T)]))
        for ones, others, fits in ((INT, tower(63), True), (tower(64), INT, False), (INT, tower(64), False)):
            self.assertEqual(run(house, "tell.two", ones, others), [] if fits else (TooMany, 64))

    def test_the_order_of_steps(self):
        """What is wrong with an earlier step is told first: many symbols, or many questions."""
        house = tell(Function("one", T), Function("two", T, wants=[show(T)], body=[
            ("ask", show(listed(T))), ("call", "tell.one", listed(T))]), Function("three", T, wants=[show(T)], body=[
                ("call", "tell.one", listed(T)), ("ask", show(listed(T)))]))
        long = tower(299)
        self.assertEqual(run(house, "tell.two", long), (TooMany, 300))
        self.assertEqual(run(house, "tell.three", long), (TooMany, 64))
        self.assertEqual(run(house, "tell.two", tower(300)), (TooMany, 300))
        self.assertEqual(run(house, "tell.three", tower(300)), (TooMany, 300))
        self.assertEqual(run(house, "tell.two", tower(298)), (TooMany, 64))


class Random(unittest.TestCase):
    def test_both_ways(self):
        """For random functions that are let by, steps that are not resolved being left out."""
        source, found = random.Random(43), Counter()
        for _ in range(500):
            house = repaired(random_packages(source))
            if house is None:
                continue
            for name in house.names:
                for function in house[name].functions:
                    for _ in range(3):
                        leaves = (A, B, ("high.c",)) if name == "high" else (A, B)
                        terms = [random_ground(source, leaves) for _ in function.variables]
                        told = run(house, f"{name}.{function.name}", *terms)
                        found[told[0].__name__ if isinstance(told, tuple) else min(len(told), 3)] += 1
        self.assertTrue(all(found[one] > 20 for one in ("NoAnswer", 0, 1, 2, 3)), found)


def random_packages(source):
    """Two packages with functions; rules that answer much, so that wants often hold."""
    low = random_looked(source, 0, 10)
    rules = list(low.rules) + [Rule(("low.m", T)), Rule(("low.n", f(T)), ("low.m", T))][:source.randrange(3)]
    rules += [Rule(("low.q", f(T)), ("low.q", T)), Rule(("low.q", A)), Rule(("low.q", B), ("low.m", A))]
    functions = []
    for at in range(5):
        wants = [one for one in (("low.q", T), ("low.m", T), ("low.p", T)) if source.randrange(3) == 0]
        body = []
        for _ in range(source.randrange(4)):
            if at and source.randrange(2):
                body.append(("call", "low.fun" + "abcde"[source.randrange(at)], source.choice([T, f(T), A, f(f(T))])))
            else:
                body.append(("ask", (source.choice(["low.q", "low.p"]), source.choice([T, f(T), f(f(T)), A, f(A), B]))))
        functions.append(Function("fun" + "abcde"[at], T, wants=wants, body=body))
    low = Package("low", sorts=LOW_SORTS, traits=LOW_TRAITS, rules=rules[:30], functions=functions)
    return House(low, random_seeing(source, low, functions=3))


def repaired(house):
    """The house without the steps that are not resolved; None if there are other complaints."""
    while True:
        wrong = [(name, look(house, name)[1][0]) for name in house.names if look(house, name)[0] == "refused"]
        if not wrong:
            return house
        name, complaint = wrong[0]
        if complaint[0] != "step":
            return None
        one, functions = house[name], list(house[name].functions)
        old = functions[complaint[1]]
        functions[complaint[1]] = Function(old.name, *old.variables, wants=old.wants, body=[
            step for at, step in enumerate(old.body) if at != complaint[2]])
        house = house.with_package(Package(name, *one.needs, sorts=one.sorts, traits=one.traits, rules=one.rules,
                                           functions=functions))


if __name__ == "__main__":
    unittest.main()
