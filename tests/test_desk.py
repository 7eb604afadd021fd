"""The desk: each command with its answers and its errors."""

import unittest

from helping import PLAIN_VALUES, base, raised, shop, tower
from nevermet.desk import Desk
from nevermet.errors import (InvalidCommand, InvalidText, Mismatch, NoAnswer, NoEdition, NoHouse, NothingToUndo, Refused, TooMany,
                             UnknownWord)
from nevermet.functions import Function
from nevermet.houses import House
from nevermet.packages import Package
from nevermet.rules import Rule, SoftRule
from nevermet.strangers import witness
from nevermet.texts import table

T = "T"
TRAIT = ("t", 1, False, ())
BOX = Package("box", "base", sorts=[("bag", 1)], traits=[("holds", 1, False, ("item",)), ("m", 1, True, ())], rules=[
    Rule(("box.holds", ("box.bag", T)), item=T),
    Rule(("box.holds", ("base.list", T)), ("box.holds", T), item=("base.list", ("box.holds.item", T))),
    Rule(("box.m", ("box.bag", T)), ("box.m", T)), Rule(("box.m", ("base.int",)))])
TELL = Package("tell", "base", functions=[
    Function("twice", T, wants=[("base.show", T)], body=[("ask", ("base.show", ("base.list", T))), ("ask", ("base.show", T))]),
    Function("none"), Function("more", T, "U", wants=[("base.show", "U")], body=[("call", "tell.twice", "U")]),
    Function("three", "A", "B", "C")])


def packed(package):
    return str(package).replace("\n", "|").replace(" ", "_")


def desk(*packages):
    return Desk(*[str(package) for package in packages])


def low():
    return Package("low", sorts=[("c", 0)], traits=[TRAIT])


def noisy(package):
    return package.later(rules=[Rule((package.name + ".t", T))])


class Made(unittest.TestCase):
    def test_texts(self):
        self.assertEqual(Desk().say("names"), "-")
        self.assertEqual(desk(base(), shop()).say("names"), "base 1, shop 1")
        self.assertEqual(Desk.of([str(base()), str(base().later())]).say(line="names"), "base 2")
        self.assertEqual(Desk.of(texts=(str(base()),)).say("names"), "base 1")

    def test_errors(self):
        self.assertEqual(raised(InvalidText, Desk, str(base()), "package a 1\nsort").line, 1)
        self.assertEqual(raised(InvalidText, Desk, None).line, 0)
        self.assertEqual(raised(NoEdition, Desk.of, [str(base()), str(base())]).name, "base")
        self.assertEqual(raised(NoHouse, Desk, str(shop())).name, "base")

    def test_a_hundred_editions(self):
        one = desk(Package("a"))
        for number in range(2, 101):
            self.assertEqual(one.say(f"put package_a_{number}"), "quiet")
        self.assertEqual(raised(TooMany, one.say, "put package_a_101").limit, 100)
        self.assertEqual(one.say("names"), "a 100")

    def test_the_example(self):
        one = Desk("package base 1\nsort int 0\nsort list 1\ntrait show 1\nrule base.show(base.int)\n"
                   "rule base.show(base.list(T)) if base.show(T)")
        self.assertEqual([one.say("put package_shop_1_needs_base|sort_item_0|rule_base.show(shop.item)"),
                          one.say("why shop base.show(base.list(shop.item))"), one.say("shut shop base.show(shop.item)")],
                         ["first", "base.show(base.list(shop.item)) base.1; base.show(shop.item) shop.0", "yes"])


class Words(unittest.TestCase):
    def setUp(self):
        self.desk = desk(base(), shop(), BOX, TELL)

    def wrong(self, line):
        return raised(InvalidCommand, self.desk.say, line).word

    def test_no_command(self):
        for thing in (*PLAIN_VALUES, "put\n", " names", "\nnames", "Names", "namess", "base", "ask\n shop", b"names"):
            self.assertEqual(self.wrong(thing), 0, thing)

    def test_words_missing(self):
        for line, word in (("put", 1), ("editions", 1), ("ask", 1), ("ask shop", 2), ("why shop", 2), ("shut", 1), ("shut shop", 2),
                           ("lasts shop", 2), ("settle", 1), ("settle box", 2), ("run", 1), ("run tell", 2), ("look", 1), ("judge", 1),
                           ("witness", 1), (f"witness {packed(base())}", 2)):
            self.assertEqual(self.wrong(line), word, line)

    def test_words_too_many(self):
        package = packed(Package("new"))
        for line, word in (("undo undo", 1), ("names base", 1), ("table x", 1), ("editions base base", 2), ("ask shop base.show(base.int) x", 3),
                           (f"put {package} {package}", 2), (f"witness {package} 0 0", 3), ("run tell three base.int base.int base.int x", 6),
                           ("run tell three base.int base.int base.int base.int", 6), ("run tell none  base.int", 3),
                           ("settle box base.int base.int", 3), ("look " + package + " ", 2), ("undo ", 1), ("names  ", 1)):
            self.assertEqual(self.wrong(line), word, line)

    def test_words_that_are_not_written_so(self):
        q = "base.show(base.int)"
        package = packed(base())
        for line, word in [
                ("editions Base", 1), ("editions base.int", 1), ("editions self", 1), ("editions abcdefghi", 1), ("editions  base", 1),
                (f"ask shop.x {q}", 1), (f"ask 1 {q}", 1), ("ask shop base.show", 2), ("ask shop base.show(T)", 2), ("ask shop T", 2),
                ("ask shop base.show(base.int())", 2), ("ask shop base.show(base.int", 2), (f"ask shop {q})", 2),
                ("ask shop base.show(base.int,)", 2), ("ask shop base.show(base.int,\nbase.int)", 2), (f"ask shop {q}\n", 2),
                ("why shop base.show(base.list(T))", 2), ("shut shop base.show", 2), ("shut shop T", 2), ("lasts shop box.holds.item(T)", 2),
                ("settle box T", 2), ("settle box box.holds.item(T)", 2), ("settle box box.holds.item", 2), ("settle box a.b.c.d(base.int)", 2),
                ("run tell twice T", 3), ("run tell twice base.list(T)", 3), ("run tell tell.twice base.int", 2),
                ("run tell twice box.holds.item(base.int)", 3), ("run tell three base.int T x", 4), ("run tell.twice base.int x", 1),
                ("put base", 1), ("put package", 1), ("put package_A_1", 1), ("put package_a_1|", 1), ("put package_a_1|sort_b", 1),
                ("put package_a_1\nsort_b_0", 1), ("put package a_1", 1), ("look package_a_1_", 1), ("judge package__a_1", 1),
                (f"witness {package} 01", 2), (f"witness {package} 1000", 2), (f"witness {package} -1", 2), (f"witness {package} x", 2),
                (f"witness {package} +1", 2), (f"witness {package[1:]} x", 1), (f"witness {package} ", 2), ("put  package_a_1", 1),
                ("ask Shop x y z", 1), ("run tell twice" + " " + tower_text(7), 3)]:
            self.assertEqual(self.wrong(line), word, line)

    def test_numbers(self):
        package = packed(base().later())
        for number in ("0", "7", "10", "999"):
            self.assertEqual(self.desk.say(f"witness {package} {number}"), "none")

    def test_a_wrong_command_changes_nothing(self):
        for line in ("put package_new_1 x", "undo x", "put package_new_1|x"):
            self.wrong(line)
        self.assertEqual(self.desk.say("names"), "base 1, box 1, shop 1, tell 1")


def tower_text(deep):
    return "base.list(" * deep + "base.int" + ")" * deep


class Shelves(unittest.TestCase):
    def test_put_and_undo(self):
        one = desk(low())
        self.assertEqual(one.say("put " + packed(noisy(low()))), "loud")
        self.assertEqual(one.say("put " + packed(noisy(low()).later())), "quiet")
        self.assertEqual(one.say("put package_low_4"), "changed")
        self.assertEqual(one.say("put package_mid_1_needs_low|sort_c_0"), "first")
        self.assertEqual([one.say("undo") for _ in range(3)], ["mid 1", "low 4", "low 3"])
        self.assertEqual(one.say("names"), "low 2")
        self.assertEqual([one.say("undo") for _ in range(2)], ["low 2", "low 1"])
        raised(NothingToUndo, one.say, "undo")
        self.assertEqual(one.say("names"), "-")

    def test_errors_of_put(self):
        one = desk(low(), Package("mid", "low"), noisy(low()))
        for command in ("put", "judge"):
            error = raised(NoEdition, one.say, f"{command} package_low_2")
            self.assertEqual((error.name, error.edition), ("low", 2))
            self.assertEqual(raised(NoHouse, one.say, f"{command} package_new_1_needs_none").name, "none")
            error = raised(Mismatch, one.say, f"{command} package_new_1_needs_mid")
            self.assertEqual((error.name, error.other), ("mid", "low"))
            self.assertEqual(raised(Refused, one.say, f"{command} package_new_1|rule_new.t(T)").complaints, (("word", "rules", 0),))
        self.assertEqual(raised(NoEdition, one.say, "witness package_low_2 0").edition, 2)
        self.assertEqual(raised(Refused, one.say, "witness package_new_1|rule_new.t(T) 0").complaints, (("word", "rules", 0),))
        self.assertEqual(one.say("names"), "low 2, mid 1")

    def test_editions(self):
        one = desk(low(), noisy(low()), noisy(low()).later(), Package("mid"))
        self.assertEqual([one.say("editions low"), one.say("editions mid")], ["first loud quiet", "first"])
        error = raised(NoEdition, one.say, "editions none")
        self.assertEqual((error.name, error.edition), ("none", 0))

    def test_table(self):
        self.assertEqual(Desk().say("table"), "")
        one = desk(base(), shop(), BOX, TELL)
        self.assertEqual(one.say("table"), table(House(base(), shop(), BOX, TELL)))
        self.assertEqual(one.say("table").split("\n")[0], "base           1      2      1      2      0")
        one = desk(low(), Package("mid", "low"), noisy(low()))
        error = raised(Mismatch, one.say, "table")
        self.assertEqual((error.name, error.other), ("mid", "low"))
        one = desk(*[Package("x" + letter) for letter in "abcdefghijklm"])
        self.assertEqual(raised(TooMany, one.say, "table").limit, 12)

    def test_judge(self):
        one = desk(low())
        for package, verdict in ((noisy(low()), "loud"), (low().later(), "quiet"), (Package("low", edition=2), "changed"),
                                 (Package("new"), "first")):
            self.assertEqual(one.say("judge " + packed(package)), verdict)
        self.assertEqual(one.say("names"), "low 1")

    def test_look(self):
        one = desk(base(), low(), Package("mid", "low"), noisy(low()))
        self.assertEqual(one.say("look " + packed(shop())), "let by")
        # No edition is too early or too late for a look.
        self.assertEqual(one.say("look package_low_9"), "let by")
        for package, complaint in [
                (Package("a", rules=[Rule(("a.b", T))]), "word rules 0"),
                (Package("a", functions=[Function("f"), Function("g", body=[("call", "a.g")])]), "word functions 1"),
                (Package("a", traits=[("m", 1, True, ())], rules=[Rule(("a.m", T)), SoftRule(("a.m", T))]), "mark 1"),
                (Package("a", traits=[TRAIT], rules=[Rule(("a.t", T), x=T)]), "member 0"),
                (Package("a", "base", rules=[Rule(("base.show", T))]), "place 0"),
                (base().later(rules=[Rule(("base.show", T))]), "pair 2 base 0"),
                (Package("a", "base", functions=[Function("f", T, body=[("ask", ("base.show", T))])]), "step 0 0")]:
            self.assertEqual(one.say("look " + packed(package)), complaint)
        self.assertEqual(raised(NoHouse, one.say, "look package_new_1_needs_none").name, "none")
        error = raised(Mismatch, one.say, "look package_new_1_needs_mid|rule_new.t(T)")
        self.assertEqual((error.name, error.other), ("mid", "low"))
        self.assertEqual(raised(NoHouse, one.say, "look package_low_3_needs_mid").reason, "ring")

    def test_witness(self):
        one = desk(low())
        later = low().later(sorts=[("d", 0)], rules=[Rule(("low.t", ("low.d",))), SoftRule(("low.t", T))])
        self.assertEqual(one.say("judge " + packed(later)), "loud")
        found = one.say(f"witness {packed(later)} 1")
        self.assertEqual(found, packed(witness(House(low()), later, 1)[1]))
        self.assertEqual(found, "package_s_1_needs_low|sort_k_0|trait_t_1|rule_s.t(s.k)_if_low.t(s.k)|rule_s.t(s.k)")
        for index in (0, 2, 999):
            self.assertEqual(one.say(f"witness {packed(later)} {index}"), "none")
        self.assertEqual(one.say(f"witness {packed(noisy(low()))} 0"), "package_s_1_needs_low|sort_k_0|rule_low.t(s.k)")
        for package in (Package("new"), Package("low", edition=2), low().later()):
            self.assertEqual(one.say(f"witness {packed(package)} 0"), "none")
        self.assertEqual(one.say("names"), "low 1")


class Questions(unittest.TestCase):
    def setUp(self):
        self.desk = desk(base(), shop(), BOX, TELL, low(), Package("mid", "low"), noisy(low()))

    def test_ask(self):
        self.assertEqual(self.desk.say("ask base base.show(base.int)"), "base 0")
        self.assertEqual(self.desk.say("ask shop base.show(base.list(shop.item))"), "base 1")
        self.assertEqual(self.desk.say("ask box base.show(box.bag(base.int))"), "no")
        self.assertEqual(self.desk.say("ask box box.m(box.bag(base.int))"), "box 2")
        self.assertEqual(self.desk.say("ask box box.m(base.list(base.int))"), "no")

    def test_why(self):
        self.assertEqual(self.desk.say("why shop base.show(base.int)"), "base.show(base.int) base.0")
        self.assertEqual(self.desk.say("why box box.m(box.bag(base.int))"), "box.m(box.bag(base.int)) box.2; box.m(base.int) box.3")
        self.assertEqual(self.desk.say("why box base.show(box.bag(base.int))"), "no")

    def test_spaces_behind_commas(self):
        two = Package("two", sorts=[("c", 0), ("d", 2)], traits=[("t", 2, False, ())], rules=[
            Rule(("two.t", T, ("two.d", T, "U")), ("two.t", T, T)), Rule(("two.t", ("two.c",), ("two.c",)))])
        one = desk(two)
        self.assertEqual(one.say("why two two.t(two.c,two.d(two.c,two.c))"),
                         "two.t(two.c, two.d(two.c, two.c)) two.0; two.t(two.c, two.c) two.1")
        self.assertEqual(raised(InvalidCommand, one.say, "why two two.t(two.c, two.c)").word, 2)
        self.assertEqual(one.say("ask two two.t(two.c,two.d(two.c,two.d(two.c,two.c)))"), "two 0")

    def test_shut(self):
        for line, answer in (("shop base.show(shop.item)", "yes"), ("shop base.show(base.int)", "no"), ("base base.show(base.int)", "yes"),
                             ("base base.show(T)", "no"), ("box base.show(box.bag(T))", "yes")):
            self.assertEqual(self.desk.say("shut " + line), answer)

    def test_lasts(self):
        one = desk(base(), shop(), Package("far", "base", sorts=[("gem", 0), ("list", 1)], traits=[TRAIT, ("u", 1, False, ())], rules=[
            Rule(("far.t", ("far.gem",))), Rule(("far.u", ("far.list", ("far.gem",))))]))
        for line, answer in (("far base.show(far.gem)", "yes"), ("far base.show(base.list(far.gem))", "exposed"),
                             ("far far.t(far.gem)", "holds"), ("far far.u(far.list(T))", "meets"), ("far far.u(T)", "exposed"),
                             ("far far.u(far.gem)", "yes"), ("far base.show(base.int)", "exposed")):
            self.assertEqual(one.say("lasts " + line), answer, line)
        digits = "abcdefghij"
        lines = ["package num 1"] + [f"sort {one} 0" for one in digits] + ["trait t 2", "trait u 1", "rule num.u(T) if num.t(num.a, num.a)"]
        for one_digit, other in zip(digits, digits[1:]):
            lines.append(f"rule num.t(T, num.{one_digit}) if num.t(T, num.{other})")
            lines.append(f"rule num.t(num.{one_digit}, num.j) if num.t(num.{other}, num.a)")
        one = Desk("\n".join(lines))
        self.assertEqual([one.say("lasts num num.u(num.b)"), one.say("lasts num num.t(num.a,num.a)")], ["many", "yes"])

    def test_errors_of_the_house(self):
        for command in ("ask", "why", "shut", "lasts", "settle"):
            thing = "no.no(no.no)" if command != "settle" else "no.no"
            error = raised(NoEdition, self.desk.say, f"{command} none {thing}")
            self.assertEqual((error.name, error.edition), ("none", 0))
            error = raised(Mismatch, self.desk.say, f"{command} mid {thing}")
            self.assertEqual((error.name, error.other), ("mid", "low"))

    def test_unknown_words(self):
        """The least word that the package does not see as what it stands for, or that has another number of parts."""
        for question, told in [
                ("base.show(shop.item)", "shop.item"), ("base.show(no.no)", "no.no"), ("base.int(base.int)", "base.int"),
                ("base.show(base.show(base.int))", "base.show"), ("base.show(base.int,base.int)", "base.show"),
                ("base.show(base.list(base.int,base.int))", "base.list"), ("base.show(base.list)", "base.list"),
                ("base.show(base.int(base.int))", "base.int"), ("zed.t(base.list(base.no))", "base.no"),
                ("base.show(base.list(base.list))", "base.list"), ("box.m(base.int)", "box.m"), ("tell.twice(base.int)", "tell.twice"),
                ("base.no(base.list(base.zed(base.int)))", "base.no")]:
            for command in ("ask", "why", "shut", "lasts"):
                self.assertEqual(raised(UnknownWord, self.desk.say, f"{command} base {question}").word, told, question)
        # Also of a question whose answer is kept.
        self.desk.say("ask shop base.show(shop.item)")
        self.assertEqual(raised(UnknownWord, self.desk.say, "ask box base.show(shop.item)").word, "shop.item")

    def test_too_many(self):
        """A question of few symbols that reaches more than 300 others."""
        digits = "abcdefg"
        lines = ["package num 1"] + [f"sort {one} 0" for one in digits] + ["trait t 3"]
        for one, other in zip(digits, digits[1:]):
            lines.append(f"rule num.t(T, U, num.{one}) if num.t(T, U, num.{other}), num.t(T, num.{other}, U), num.t(num.{other}, U, T)")
        one = Desk("\n".join(lines))
        for command in ("ask", "why"):
            self.assertEqual(raised(TooMany, one.say, f"{command} num num.t(num.a,num.a,num.a)").limit, 300)


class Running(unittest.TestCase):
    def setUp(self):
        self.desk = desk(base(), shop(), BOX, TELL, low(), Package("mid", "low", functions=[Function("f", T)]))

    def test_settle(self):
        for expression, term in (("box.holds.item(base.list(box.bag(base.int)))", "base.list(base.int)"), ("base.int", "base.int"),
                                 ("base.list(box.holds.item(box.bag(box.bag(base.int))))", "base.list(box.bag(base.int))")):
            self.assertEqual(self.desk.say("settle box " + expression), term)

    def test_settle_with_several_parts(self):
        one = desk(Package("two", sorts=[("c", 0), ("d", 2)], traits=[("t", 2, False, ("x",))], rules=[
            Rule(("two.t", T, ("two.c",)), x=("two.d", T, ("two.c",)))]))
        self.assertEqual(one.say("settle two two.t.x(two.c,two.c)"), "two.d(two.c, two.c)")

    def test_errors_of_settle(self):
        for expression, told in (("box.holds.item(shop.item)", "shop.item"), ("box.holds.no(base.int)", "box.holds.no"),
                                 ("box.m.item(base.int)", "box.m.item"), ("box.holds.item(base.int,base.int)", "box.holds.item"),
                                 ("base.list(box.holds.item(base.list))", "base.list"), ("no.no.no(base.int)", "no.no.no"),
                                 ("base.list(base.zed(base.no.no(base.int)))", "base.no.no"), ("base.show(base.int)", "base.show")):
            self.assertEqual(raised(UnknownWord, self.desk.say, "settle box " + expression).word, told, expression)
        self.assertEqual(raised(UnknownWord, self.desk.say, "settle base box.holds.item(base.int)").word, "box.holds.item")
        self.assertEqual(raised(NoAnswer, self.desk.say, "settle box box.holds.item(base.int)").question, ("box.holds", ("base.int",)))

    def test_run(self):
        self.assertEqual(self.desk.say("run tell twice shop.item"), "base.show(base.list(shop.item)) base.1; base.show(shop.item) shop.0")
        self.assertEqual(self.desk.say("run tell more box.bag(shop.item) base.int"),
                         "base.show(base.list(base.int)) base.1; base.show(base.int) base.0")
        self.assertEqual(self.desk.say("run tell none"), "-")
        self.assertEqual(self.desk.say("run tell three base.int low.c shop.item"), "-")

    def test_errors_of_run(self):
        error = raised(NoEdition, self.desk.say, "run none f no.no")
        self.assertEqual((error.name, error.edition), ("none", 0))
        error = raised(NoEdition, self.desk.say, "run tell none zed.z(no.no)")
        self.assertEqual((error.name, error.edition), ("no", 0))
        for line, told in (("tell no", "tell.no"), ("tell twice", "tell.twice"), ("tell twice base.int base.int", "tell.twice"),
                           ("tell none base.no", "tell.none"), ("base show base.int", "base.show"), ("base int", "base.int"),
                           ("base list base.aaa", "base.list"), ("base show base.aaa", "base.show"),
                           ("tell twice base.no", "base.no"), ("tell twice base.list", "base.list"), ("tell twice shop.item(shop.zed)", "shop.item"),
                           ("tell three shop.item shop.b base.zed", "base.zed"), ("tell three base.int box.bag base.list", "base.list"),
                           ("tell twice box.m(base.int)", "box.m")):
            self.assertEqual(raised(UnknownWord, self.desk.say, "run " + line).word, told, line)
        self.assertEqual(raised(NoAnswer, self.desk.say, "run tell twice box.bag(base.int)").question,
                         ("base.show", ("box.bag", ("base.int",))))
        self.desk.say("put " + packed(noisy(low())))
        error = raised(Mismatch, self.desk.say, "run mid f base.none")
        self.assertEqual((error.name, error.other), ("mid", "low"))
        error = raised(Mismatch, self.desk.say, "run mid none")
        self.assertEqual((error.name, error.other), ("mid", "low"))

    def test_the_house_of_a_run(self):
        """The owners of the words of the terms stand beside the package, whoever sees them."""
        self.assertEqual(raised(UnknownWord, self.desk.say, "ask tell base.show(shop.item)").word, "shop.item")
        self.assertEqual(self.desk.say("run tell twice base.list(shop.item)"),
                         "base.show(base.list(base.list(shop.item))) base.1; base.show(base.list(shop.item)) base.1")
        self.assertEqual(tower(1)[0], "base.list")


if __name__ == "__main__":
    unittest.main()
