import unittest

from helping import FULL, INT, OVERFULL, PLAIN_VALUES, listed, raised, tower
from nevermet.errors import InvalidFunction, NeverError
from nevermet.functions import Function
from nevermet.names import is_name, is_variable
from nevermet.packages import Package
from nevermet.rules import Rule

WANT = ("base.show", "T")
ASK = ("ask", ("base.show", listed("T")))
CALL = ("call", "base.tell", "T", INT)


def reason(name, *variables, wants=(), body=()):
    """The reason that every way of making a function tells."""
    found = {raised(InvalidFunction, Function, name, *variables, wants=wants, body=body).reason,
             raised(InvalidFunction, Function.of, name, variables, wants, body).reason,
             raised(InvalidFunction, Function.of, name, list(variables), wants, body).reason}
    if isinstance(wants, (list, tuple)) and isinstance(body, (list, tuple)):
        found.add(raised(InvalidFunction, Function, name, *variables, wants=list(wants), body=tuple(body)).reason)
    assert len(found) == 1, found
    return found.pop()


class Made(unittest.TestCase):
    def test_properties(self):
        one = Function("twice", "T", "U", wants=[WANT], body=[ASK, CALL])
        self.assertEqual((one.name, one.variables, one.wants, one.body), ("twice", ("T", "U"), (WANT,), (ASK, CALL)))
        plain = Function("f")
        self.assertEqual((plain.name, plain.variables, plain.wants, plain.body), ("f", (), (), ()))
        for value in (plain.variables, plain.wants, plain.body):
            self.assertIsInstance(value, tuple)
        self.assertEqual(Function(name="f", body=(ASK,)[:0]).name, "f")
        with self.assertRaises(AttributeError):
            one.wants = ()

    def test_of(self):
        expected = Function("f", "T", "U", wants=(WANT,), body=(ASK,))
        self.assertEqual(Function.of("f", ["T", "U"], [WANT], [ASK]), expected)
        self.assertEqual(Function.of(name="f", variables=("T", "U"), wants=(WANT,), body=(ASK,)), expected)
        self.assertEqual(Function.of("f", (), (), ()), Function("f"))

    def test_what_was_passed_in_does_not_change_it(self):
        variables, wants, body = ["T"], [WANT], [ASK]
        for one in (Function("f", *variables, wants=wants, body=body), Function.of("f", variables, wants, body)):
            variables.append("U")
            wants.append(None)
            body.clear()
            self.assertEqual((one.variables, one.wants, one.body), (("T",), (WANT,), (ASK,)))
            variables, wants, body = ["T"], [WANT], [ASK]


class Wrong(unittest.TestCase):
    def test_name(self):
        for thing in PLAIN_VALUES:
            if not is_name(thing):
                self.assertEqual(reason(thing), "name", thing)
        for thing in ("self", "head", "abcdefghi", "a.b", "A", Rule(WANT)):
            self.assertEqual(reason(thing), "name")
        self.assertIsInstance(raised(InvalidFunction, Function, None), NeverError)
        self.assertEqual(Function("abcdefgh").name, "abcdefgh")

    def test_variables(self):
        self.assertEqual(Function("f", "A", "B", "C").variables, ("A", "B", "C"))
        self.assertEqual(reason("f", "A", "B", "C", "D"), "variables")
        self.assertEqual(reason("f", "A", "A"), "variables")
        self.assertEqual(reason("f", "A", "B", "A"), "variables")
        for thing in PLAIN_VALUES:
            if not is_variable(thing):
                self.assertEqual(reason("f", thing), "variables", thing)
                self.assertEqual(reason("f", "A", "B", thing), "variables", thing)

    def test_wants(self):
        many = [("base.show", ("a.b",) + ("T",) * at) for at in range(4)] + [("base.eq", "T", "T"), ("base.eq", INT)]
        self.assertEqual(Function("f", "T", wants=many).wants, tuple(many))
        self.assertEqual(reason("f", "T", wants=[*many, WANT]), "wants")
        self.assertEqual(reason("f", "T", wants=[WANT, WANT]), "wants")
        self.assertEqual(reason("f", "T", wants=[WANT, many[0], WANT]), "wants")
        for thing in (None, True, 1, "", "T", {}, {"a": 1}, WANT):
            self.assertEqual(reason("f", "T", wants=thing), "wants", thing)
        for thing in (None, True, "T", "base.show", (), [], {}, INT, ("base.show",), ["base.show", "T"], ("base.show", "t"),
                      ("base.show", OVERFULL), ("base.show", tower(6)), ("base.show", "T", "T", "T", "T"), ("T", "T"),
                      ("base.show", ("a.b.c", "T")), Rule(WANT)):
            self.assertEqual(reason("f", "T", wants=[thing]), "wants", thing)
            self.assertEqual(reason("f", "T", wants=[WANT, thing]), "wants", thing)
        self.assertEqual(Function("f", wants=[("base.show", FULL, FULL, FULL)]).wants, (("base.show", FULL, FULL, FULL),))

    def test_body(self):
        self.assertEqual(Function("f", "T", body=[ASK] * 8).body, (ASK,) * 8)
        self.assertEqual(reason("f", "T", body=[ASK] * 9), "body")
        for thing in (None, True, 1, "", "T", {}, {"a": 1}, ASK, CALL):
            self.assertEqual(reason("f", "T", body=thing), "body", thing)
        for thing in (None, True, "ask", (), [], {}, ("ask",), ("call",), list(ASK), list(CALL), ("ask", None), ("ask", "T"),
                      ("ask", INT), ("ask", ["base.show", "T"]), (*ASK, WANT), ("ask", "base.show", "T"), ("tell", WANT),
                      ("tell", "base.tell", "T"), ("tell", "base.tell"), (None, "base.tell"), ("Call", "base.tell"),
                      ("Ask", WANT), (None, WANT), WANT, ("call", None), ("call", "tell"), ("call", "T"), ("call", INT),
                      ("call", "a.b.c"), ("call", "base.tell", "t"), ("call", "base.tell", "T", ["base.int"]),
                      ("call", "base.tell", "A", "A", "A", "A"), ("call", "base.tell", OVERFULL), ("call", ["base.tell"]),
                      ("call", "base.tell", tower(6)), ("ask", ("base.show", OVERFULL)), ("ask", ("base.show", "t")),
                      (["ask"], WANT), Rule(WANT)):
            self.assertEqual(reason("f", "T", body=[thing]), "body", thing)
            self.assertEqual(reason("f", "T", body=[ASK, thing]), "body", thing)

    def test_steps(self):
        for many in range(4):
            step = ("call", "base.tell") + ("T",) * many
            self.assertEqual(Function("f", "T", body=[step]).body, (step,))
        for step in (("call", "base.tell", FULL, tower(5)), ("ask", ("base.show", FULL, tower(5), INT))):
            self.assertEqual(Function("f", body=[step, step]).body, (step, step))

    def test_free(self):
        self.assertEqual(reason("f", wants=[WANT]), "free")
        self.assertEqual(reason("f", "U", wants=[WANT]), "free")
        self.assertEqual(reason("f", body=[ASK]), "free")
        for step in (("call", "base.tell", "T"), ("call", "base.tell", "U", listed("T")), ("call", "base.tell", INT, INT, "T"),
                     ("ask", ("base.eq", "U", "T")), ("ask", ("base.eq", listed("T"), "U"))):
            self.assertEqual(reason("f", "U", body=[step]), "free", step)
            self.assertEqual(reason("f", "U", body=[("call", "base.tell", "U"), step]), "free", step)
        self.assertEqual(reason("f", "A", "B", "C", wants=[("a.b", "A", "B", "C")], body=[("ask", ("a.b", "D"))]), "free")
        self.assertEqual(Function("f", "T", "U", body=[("call", "base.tell", "U")]).variables, ("T", "U"))

    def test_the_first_reason_is_told(self):
        free, same = ("base.show", "U"), [WANT, WANT]
        self.assertEqual(reason("F", "A", "A", wants=same, body=[None]), "name")
        self.assertEqual(reason("f", "A", "A", wants=same, body=[None]), "variables")
        self.assertEqual(reason("f", "a", wants=None, body=None), "variables")
        self.assertEqual(reason("f", "T", wants=same, body=[None]), "wants")
        self.assertEqual(reason("f", "T", wants=[free], body=[None]), "body")
        self.assertEqual(reason("f", "T", wants=[free], body=[ASK] * 9), "body")
        self.assertEqual(reason("f", "T", wants=[free], body=[ASK]), "free")

    def test_of_what_is_no_row_of_variables(self):
        for thing in (None, "T", {"T": 1}, 3):
            self.assertEqual(raised(InvalidFunction, Function.of, "f", thing, (), ()).reason, "variables")


class Compared(unittest.TestCase):
    def test_equal(self):
        one = Function("f", "T", wants=[WANT], body=[ASK])
        self.assertTrue(one == Function("f", "T", wants=(WANT,), body=(ASK,)))
        self.assertFalse(one != Function("f", "T", wants=(WANT,), body=(ASK,)))
        for other in (Function("g", "T", wants=[WANT], body=[ASK]), Function("f", "T", "U", wants=[WANT], body=[ASK]),
                      Function("f", "T", body=[ASK]), Function("f", "T", wants=[WANT]), None, True, "f", str(one),
                      ("f", ("T",), (WANT,), (ASK,)), Rule(WANT), Package("f")):
            self.assertFalse(one == other)
            self.assertFalse(other == one)
            self.assertTrue(one != other)
        self.assertFalse(Function("f", "T", "U") == Function("f", "U", "T"))

    def test_text(self):
        self.assertEqual(str(Function("f")), "function f")
        self.assertEqual(str(Function("f", "T", wants=[WANT], body=[ASK, CALL])),
                         "function f(T) wants base.show(T) does ask base.show(base.list(T)), call base.tell(T, base.int)")


if __name__ == "__main__":
    unittest.main()
