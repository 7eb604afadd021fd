"""The shelf: point 27."""

import random
import unittest
from collections import Counter

from helping import A, B, INT, LOW_SORTS, LOW_TRAITS, PLAIN_VALUES, base, f, listed, raised, shop
from nevermet.asking import ask
from nevermet.changes import judge
from nevermet.errors import (InvalidLimit, Mismatch, NoEdition, NoHouse, NothingToUndo, Refused, TooMany, UnknownWord)
from nevermet.houses import House
from nevermet.packages import Package
from nevermet.rules import Rule, SoftRule
from nevermet.shelf import Shelf

T = "T"
TRAIT = ("t", 1, False, ())
BAD = Rule(("base.none", T))


def bare(name, *needs, **more):
    return Package(name, *needs, **more)


def noisy(package, *needs):
    """The next edition with a rule that is loud: everything has the trait `t` of the package."""
    return package.later(*needs, traits=[("n" + "abcdefgh"[package.edition], 1, False, ())], rules=[
        Rule((package.name + ".t", T))])


def changed(package, *needs):
    """The next edition without what the elder one has."""
    return Package(package.name, *needs, edition=package.edition + 1, sorts=[("changed", 0)])


def state(shelf):
    """All that can be seen of a shelf."""
    editions = {name: shelf[name].edition for name in shelf.names}
    rows = [(name, at + 1) for name in editions for at in range(editions[name])]
    return (len(shelf), shelf.names, shelf.room, shelf.asked, shelf.kept, [str(shelf.package_at(*row)) for row in rows],
            [shelf.verdict(*row) for row in rows], [shelf.noted(*row) for row in rows])


def mark(name):
    """A package with a trait `t` and a sort `c`."""
    return Package(name, sorts=[("c", 0)], traits=[TRAIT])


class Making(unittest.TestCase):
    def test_empty(self):
        shelf = Shelf()
        self.assertEqual(state(shelf), (0, (), 100, 0, 0, [], [], []))
        self.assertEqual((Shelf.MOST, shelf.MOST), (200, 200))
        self.assertEqual(Shelf(room=0).room, 0)
        self.assertEqual(Shelf(room=200).room, 200)

    def test_packages(self):
        shelf = Shelf(base(), shop(), room=5)
        self.assertEqual((len(shelf), shelf.names, shelf.room), (2, ("base", "shop"), 5))
        self.assertEqual(shelf, Shelf.of([base(), shop()], room=7))
        self.assertEqual(Shelf.of(packages=(base(), shop())).room, 100)
        self.assertEqual((shelf["base"], shelf["shop"]), (base(), shop()))

    def test_wrong_rooms(self):
        """Any value, before all else."""
        for room in (*PLAIN_VALUES, 201, -1, 10 ** 60, "5", [5]):
            if room.__class__ is int and 0 <= room <= 200:
                continue
            self.assertEqual(raised(InvalidLimit, Shelf, shop(), room=room).limit, room)
            self.assertEqual(raised(InvalidLimit, Shelf.of, [shop()], room=room).limit, room)
        error = raised(InvalidLimit, Shelf, room=True)
        self.assertIs(error.limit, True)

    def test_errors_of_put(self):
        error = raised(NoHouse, Shelf, shop(), base())
        self.assertEqual((error.reason, error.name), ("need", "base"))
        self.assertEqual(raised(TooMany, Shelf, base(), shop(), room=1).limit, 1)
        self.assertEqual(raised(TooMany, Shelf.of, [base()], room=0).limit, 0)
        error = raised(NoEdition, Shelf, base(), base())
        self.assertEqual((error.name, error.edition), ("base", 1))


class Put(unittest.TestCase):
    def test_verdicts(self):
        shelf = Shelf()
        one = Package("one", sorts=[("c", 0)], traits=[("t", 2, False, ()), ("p", 1, False, ())],
                      rules=[SoftRule(("one.t", "A", "B"))])
        self.assertEqual(shelf.put(package=one), "first")
        two = one.later(rules=[Rule(("one.p", ("one.c",)))])
        self.assertEqual(shelf.put(two), "quiet")
        three = two.later(rules=[SoftRule(("one.t", ("one.c",), "B"))])
        self.assertEqual(shelf.put(three), "covered")
        four = three.later(rules=[Rule(("one.t", ("one.c",), ("one.c",))), SoftRule(("one.p", T))])
        self.assertEqual(shelf.put(four), "loud")
        self.assertEqual(shelf.put(changed(four)), "changed")
        self.assertEqual([shelf.verdict("one", number) for number in range(1, 6)],
                         ["first", "quiet", "covered", "loud", "changed"])
        self.assertEqual([shelf.package_at("one", number) for number in range(1, 5)], [one, two, three, four])
        for elder, later, number in ((one, two, 2), (two, three, 3), (three, four, 4)):
            self.assertEqual(judge(House(elder), later)[0], shelf.verdict("one", number))

    def test_changed_in_each_field(self):
        elder = Package("one", "base", sorts=[("c", 0)], traits=[TRAIT], rules=[Rule(("one.t", ("one.c",)))])
        for later in (Package("one", edition=2, sorts=elder.sorts, traits=elder.traits, rules=elder.rules),
                      Package("one", "base", edition=2, traits=elder.traits),
                      Package("one", "base", edition=2, sorts=elder.sorts), Package("one", "base", edition=2)):
            shelf = Shelf(base(), elder)
            self.assertEqual(shelf.put(later), "changed")

    def test_changed_because_the_elder_edition_is_refused(self):
        """Where it is judged now, with the newest edition of what it sees, which was not quiet."""
        low = Package("low", sorts=[("a", 0)], traits=[TRAIT])
        high = Package("high", "low", sorts=[("c", 0)], rules=[Rule(("low.t", ("high.c",)))])
        loud = low.later(rules=[Rule(("low.t", T))])
        shelf = Shelf(low, high, loud)
        self.assertEqual(shelf.verdict("low", 2), "loud")
        self.assertEqual(raised(Refused, shelf.put, high.later()).complaints, (("pair", 0, ("low", 0)),))
        high2 = Package("high", "low", edition=2, sorts=[("c", 0)])
        self.assertEqual(shelf.put(high2), "changed")
        # The elder edition is refused where it is judged, though the next one begins with it and is let by.
        low3 = Package("low", edition=3, sorts=[("a", 0)], traits=[TRAIT], rules=[Rule(("low.t", T), ("low.t", ("low.b",)))])
        self.assertEqual(raised(Refused, shelf.put, low3).complaints, (("word", "rules", 0),))

    def test_changed_although_the_next_edition_is_let_by(self):
        """The elder edition saw `low` only through `mid`, which no longer sees it; the next one needs it itself."""
        low = mark("low")
        high = Package("high", "mid", sorts=[("c", 0)], rules=[Rule(("low.t", ("high.c",)))])
        shelf = Shelf(low, bare("mid", "low"), high, Package("mid", edition=2))
        self.assertEqual(raised(Refused, shelf.put, high.later()).complaints, (("word", "rules", 0),))
        self.assertEqual(shelf.put(high.later("low")), "changed")
        self.assertEqual(shelf.put(shelf["high"].later()), "quiet")

    def test_the_next_edition(self):
        shelf = Shelf(base(), shop())
        for package, told in ((Package("new", edition=2), ("new", 2)), (base(), ("base", 1)),
                              (base().later().later(), ("base", 3)), (Package("new", "none", edition=999), ("new", 999)),
                              (Package("shop", edition=5, rules=[BAD]), ("shop", 5))):
            error = raised(NoEdition, shelf.put, package)
            self.assertEqual((error.name, error.edition), told)

    def test_room(self):
        shelf = Shelf(base(), shop(), room=2)
        self.assertEqual(raised(TooMany, shelf.put, Package("new", "none")).limit, 2)
        self.assertEqual(raised(NoEdition, shelf.put, Package("new", "none", edition=2)).edition, 2)
        shelf.undo()
        self.assertEqual(shelf.put(Package("new")), "first")

    def test_errors_of_the_house(self):
        names = ["x" + letter for letter in "abcdefghijkl"]
        shelf = Shelf(*[Package(name) for name in names[:8]], Package("ya", *names[:8]), *[Package(name) for name in names[8:]])
        shelf.put(Package("yb", *names[8:]))
        error = raised(TooMany, shelf.put, Package("top", "ya", "yb", "none"))
        self.assertEqual(error.limit, 12)
        error = raised(NoHouse, shelf.put, Package("top", "ya", "zz", "none"))
        self.assertEqual((error.reason, error.name), ("need", "none"))
        self.assertEqual(shelf.put(Package("top", "ya", "xi")), "first")
        # It stands for its name, also where it would see itself.
        error = raised(NoHouse, shelf.put, Package("xi", "top", edition=2))
        self.assertEqual((error.reason, error.name), ("ring", "top"))
        error = raised(NoHouse, shelf.put, Package("xa", "ya", edition=2))
        self.assertEqual((error.reason, error.name), ("ring", "xa"))

    def test_mismatch_of_the_others(self):
        """Its own notes do not matter; of the others the least pair is told."""
        low, mid = mark("low"), Package("mid", "low")
        at = Package("at", "low")
        shelf = Shelf(low, mid, at, noisy(low))
        self.assertEqual(shelf.verdict("low", 2), "loud")
        for needs, told in ((("mid",), ("mid", "low")), (("at",), ("at", "low")), (("mid", "at"), ("at", "low")),
                            (("low", "mid"), ("mid", "low"))):
            error = raised(Mismatch, shelf.put, Package("top", *needs, rules=[BAD]))
            self.assertEqual((error.name, error.other), told)
        self.assertEqual(raised(Refused, shelf.put, Package("top", "low", rules=[BAD])).complaints, (("word", "rules", 0),))
        self.assertEqual(shelf.put(Package("top", "low")), "first")
        # The next edition of `mid` is looked at anew, with the loud one.
        self.assertEqual(shelf.put(mid.later()), "quiet")
        self.assertEqual(shelf.put(Package("over", "mid")), "first")

    def test_mismatch_with_a_package_that_is_not_in_the_house(self):
        low, mid, top = bare("low"), bare("mid", "low"), bare("top", "mid")
        shelf = Shelf(low, mid, top, Package("mid", edition=2))
        self.assertEqual(shelf.verdict("mid", 2), "changed")
        error = raised(Mismatch, shelf.put, Package("over", "top"))
        self.assertEqual((error.name, error.other), ("top", "low"))
        error = raised(Mismatch, shelf.put, Package("low", "top", edition=2))
        self.assertEqual((error.name, error.other), ("top", "low"))

    def test_refused(self):
        shelf = Shelf(base())
        self.assertEqual(raised(Refused, shelf.put, Package("new", "base", rules=[BAD])).complaints, (("word", "rules", 0),))
        self.assertEqual(raised(Refused, shelf.put, base().later(rules=[Rule(("base.show", T))])).complaints,
                         (("pair", 2, ("base", 0)), ("pair", 2, ("base", 1))))

    def test_what_is_noted(self):
        low, mid, top = bare("low"), bare("mid", "low"), bare("top", "mid")
        shelf = Shelf(low, mid, low.later(sorts=[("c", 0)]), top, bare("side"))
        self.assertEqual(shelf.noted("low", 1), {})
        self.assertEqual(shelf.noted(name="mid", number=1), {"low": 1})
        self.assertEqual(shelf.noted("top", 1), {"low": 2, "mid": 1})
        shelf.put(top.later("side"))
        self.assertEqual((shelf.noted("top", 1), shelf.noted("top", 2)),
                         ({"low": 2, "mid": 1}, {"low": 2, "mid": 1, "side": 1}))
        found = shelf.noted("top", 1)
        found["low"] = 9
        self.assertEqual(shelf.noted("top", 1)["low"], 2)

    def test_judged_in_the_house_of_what_both_see(self):
        low, side = mark("low"), mark("side")
        shelf = Shelf(low, side)
        later = low.later("side", rules=[Rule(("low.t", ("side.c",)), ("side.t", ("side.c",)))])
        self.assertEqual(shelf.put(later), "quiet")
        self.assertEqual(shelf.noted("low", 2), {"side": 1})

    def test_nothing_changes_when_an_error_is_raised(self):
        low = mark("low")
        shelf = Shelf(low, bare("mid", "low"), noisy(low), room=5)
        shelf.ask(("low.t", ("low.c",)), by="low")
        before = state(shelf)
        for kind, package in ((NoEdition, low), (NoHouse, bare("new", "none")), (Mismatch, bare("new", "mid")),
                              (Refused, Package("new", rules=[BAD]))):
            raised(kind, shelf.put, package)
            raised(kind, shelf.would, package)
            raised(kind, shelf.would_answer, package, ("low.t", ("low.c",)), by="low")
            raised(kind, shelf.put_all, [bare("good"), package])
            self.assertEqual(state(shelf), before)
        shelf.set_room(3)
        raised(TooMany, shelf.put, bare("new"))
        self.assertEqual(shelf.undo().edition, 2)


class Reading(unittest.TestCase):
    def setUp(self):
        self.shelf = Shelf(base(), shop(), base().later())

    def test_names_and_newest(self):
        self.assertEqual((len(self.shelf), self.shelf.names), (3, ("base", "shop")))
        self.assertEqual(self.shelf["base"].edition, 2)
        for thing in (*PLAIN_VALUES, "BASE", ("base",)):
            self.assertIs(thing in self.shelf, False)
            error = raised(NoEdition, lambda one=thing: self.shelf[one])
            self.assertEqual((error.name, error.edition), (thing, 0))
        self.assertIs("base" in self.shelf, True)

    def test_editions_that_are_not_there(self):
        for name, number in [("base", 0), ("base", 3), ("base", -1), ("base", True), ("base", "1"), ("base", None),
                             ("base", [1]), ("shop", 2), ("none", 1), (None, 1), ({}, 1), (["base"], 2), ("base", 10 ** 59)]:
            for call in (self.shelf.package_at, self.shelf.verdict, self.shelf.noted):
                error = raised(NoEdition, call, name, number)
                self.assertEqual((error.name, error.edition), (name, number))
                self.assertEqual(raised(NoEdition, call, name=name, number=number).name, name)
        self.assertEqual(self.shelf.package_at(name="base", number=1), base())
        self.assertEqual(self.shelf.verdict(name="base", number=2), "quiet")

    def test_not_iterated_over(self):
        with self.assertRaises(TypeError):
            list(self.shelf)


class Undo(unittest.TestCase):
    def test_in_the_reverse_order(self):
        low = mark("low")
        shelf = Shelf(low, base())
        states = [state(shelf)]
        for package in (shop(), noisy(low), bare("new"), noisy(noisy(low))):
            try:
                shelf.put(package)
            except Refused:
                continue
            states.append(state(shelf))
        order = []
        while len(states) > 1:
            self.assertEqual(state(shelf), states.pop())
            order.append((lambda one: (one.name, one.edition))(shelf.undo()))
            self.assertEqual(state(shelf), states[-1])
        self.assertEqual(order, [("new", 1), ("low", 2), ("shop", 1)])
        self.assertEqual(shelf.undo(), base())
        self.assertEqual(shelf.undo(), low)
        raised(NothingToUndo, shelf.undo)
        self.assertEqual(shelf, Shelf())
        self.assertEqual(shelf.put(base()), "first")

    def test_put_again(self):
        shelf = Shelf(base())
        shelf.put(base().later())
        self.assertEqual(shelf.undo(), base().later())
        self.assertEqual(shelf.put(base().later(sorts=[("x", 0)])), "quiet")
        self.assertEqual(shelf["base"].sorts[-1], ("x", 0))


class Houses(unittest.TestCase):
    def setUp(self):
        self.low = mark("low")
        self.mid = bare("mid", "low")
        self.quiet = self.low.later(sorts=[("d", 0)])
        self.shelf = Shelf(self.low, self.mid, self.quiet, bare("far"), bare("top", "mid"), self.mid.later("far"))

    def test_names(self):
        self.assertEqual(self.shelf.house(), House())
        self.assertEqual(self.shelf.house("low"), House(self.quiet))
        self.assertEqual(self.shelf.house("mid"), House(self.quiet, self.mid.later("far"), bare("far")))
        self.assertEqual(self.shelf.house("top", "low", "top"),
                         House(self.quiet, bare("far"), self.mid.later("far"), bare("top", "mid")))

    def test_editions(self):
        self.assertEqual(self.shelf.house(low=1), House(self.low))
        self.assertEqual(self.shelf.house("mid", mid=1), House(self.quiet, self.mid))
        self.assertEqual(self.shelf.house(mid=1, low=1), House(self.low, self.mid))
        self.assertEqual(self.shelf.house("low", "mid", low=2, mid=1), House(self.quiet, self.mid))
        self.assertEqual(self.shelf.house_of({"mid": 1}), self.shelf.house(mid=1))
        self.assertEqual(self.shelf.house_of(editions={"mid": 2, "top": 1}), self.shelf.house("top"))
        self.assertEqual(self.shelf.house_of({}), House())

    def test_names_and_editions_that_are_not_there(self):
        for thing in (*PLAIN_VALUES, "none"):
            error = raised(NoEdition, self.shelf.house, "low", thing, "other", low=9)
            self.assertEqual((error.name, error.edition), (thing, 0))
        for number in (0, 3, -1, True, None, "1", [2], 10 ** 50):
            error = raised(NoEdition, self.shelf.house, "mid", low=number, mid=9, top=1)
            self.assertEqual((error.name, error.edition), ("low", number))
            error = raised(NoEdition, self.shelf.house_of, {"mid": 9, "low": number, "top": 8})
            self.assertEqual((error.name, error.edition), ("low", number))
        error = raised(NoEdition, self.shelf.house, none=1, low=1)
        self.assertEqual((error.name, error.edition), ("none", 1))
        error = raised(NoEdition, self.shelf.house_of, {"self": 1, "zed": 1})
        self.assertEqual((error.name, error.edition), ("self", 1))

    def test_mismatch_with_an_elder_edition(self):
        """The package `top` noted the second edition of `low`."""
        error = raised(Mismatch, self.shelf.house, "top", low=1)
        self.assertEqual((error.name, error.other), ("mid", "low"))
        error = raised(Mismatch, self.shelf.house, "top", low=1, mid=1)
        self.assertEqual((error.name, error.other), ("top", "low"))
        self.assertEqual(len(self.shelf.house("top", mid=1)), 3)

    def test_mismatch_with_an_edition_that_is_not_quiet(self):
        self.shelf.put(noisy(self.quiet))
        for names, editions, told in [(("mid",), {}, ("mid", "low")), (("top",), {}, ("mid", "low")),
                                      (("top",), {"mid": 1}, ("mid", "low")), (("top",), {"low": 3}, ("mid", "low"))]:
            error = raised(Mismatch, self.shelf.house, *names, **editions)
            self.assertEqual((error.name, error.other), told)
        self.assertEqual(len(self.shelf.house("top", low=2)), 4)
        # A quiet edition behind the loud one does not help.
        self.shelf.put(self.shelf["low"].later())
        self.assertEqual(self.shelf.verdict("low", 4), "quiet")
        raised(Mismatch, self.shelf.house, "mid")

    def test_mismatch_with_a_package_that_is_not_there(self):
        shelf = Shelf(bare("low"), bare("mid", "low"), bare("top", "mid"), Package("mid", edition=2))
        error = raised(Mismatch, shelf.house, "top")
        self.assertEqual((error.name, error.other), ("top", "low"))
        error = raised(Mismatch, shelf.house, "top", "low")
        self.assertEqual((error.name, error.other), ("top", "mid"))
        self.assertEqual(shelf.house("top", mid=1), House(bare("low"), bare("mid", "low"), bare("top", "mid")))

    def test_errors_of_the_house(self):
        names = ["x" + letter for letter in "abcdefghijklm"]
        shelf = Shelf(*[bare(name) for name in names])
        self.assertEqual(raised(TooMany, shelf.house, *names).limit, 12)
        self.assertEqual(len(shelf.house(*names[:12])), 12)
        self.assertEqual(raised(NoEdition, shelf.house, *names, "none").name, "none")
        shelf = Shelf(bare("b"), bare("a", "b"), Package("a", edition=2), Package("b", "a", edition=2))
        error = raised(NoHouse, shelf.house, "b", a=1)
        self.assertEqual((error.reason, error.name), ("ring", "a"))
        self.assertEqual(shelf.house("b"), House(Package("a", edition=2), Package("b", "a", edition=2)))


class Asking(unittest.TestCase):
    def setUp(self):
        self.shelf = Shelf(base(), shop(), bare("far", "base", sorts=[("gem", 0)]))
        self.item, self.gem = ("base.show", ("shop.item",)), ("base.show", ("far.gem",))

    def counts(self):
        return self.shelf.asked, self.shelf.kept

    def test_answers_are_kept_whoever_asks(self):
        self.assertEqual(self.shelf.ask(("base.show", INT), by="base"), ("base", 0))
        self.assertEqual(self.counts(), (1, 1))
        self.assertEqual(self.shelf.ask(question=("base.show", INT), by="shop"), ("base", 0))
        self.assertEqual(self.counts(), (1, 1))
        self.assertIsNone(self.shelf.ask(self.gem, by="far"))
        self.assertIsNone(self.shelf.ask(self.gem, by="far"))
        self.assertEqual(self.counts(), (2, 2))

    def test_errors(self):
        for thing in (*PLAIN_VALUES, "none"):
            error = raised(NoEdition, self.shelf.ask, ("no.no", INT), by=thing)
            self.assertEqual((error.name, error.edition), (thing, 0))
        self.assertEqual(raised(UnknownWord, self.shelf.ask, self.item, by="base").word, "shop.item")
        self.shelf.ask(self.item, by="shop")
        # Also for a question whose answer is kept.
        self.assertEqual(raised(UnknownWord, self.shelf.ask, self.item, by="far").word, "shop.item")
        self.assertEqual(self.counts(), (1, 1))
        long = INT
        for _ in range(300):
            long = listed(long)
        self.assertEqual(raised(TooMany, self.shelf.ask, ("base.show", long), by="base").limit, 300)
        self.assertEqual(self.counts(), (1, 1))
        self.assertEqual(self.shelf.ask(("base.show", long[1]), by="base"), ("base", 1))

    def test_the_house_is_put_together_each_time(self):
        low = mark("low")
        shelf = Shelf(low, bare("mid", "low"))
        shelf.ask(("low.t", ("low.c",)), by="mid")
        shelf.put(noisy(low))
        raised(Mismatch, shelf.ask, ("low.t", ("low.c",)), by="mid")
        self.assertEqual(shelf.ask(("low.t", ("low.c",)), by="low"), ("low", 0))

    def test_what_a_put_drops(self):
        """Answers of questions with a word of this package, or of one that sees it; no others."""
        self.shelf.put(bare("other"))
        top = Package("top", "shop", sorts=[("k", 0)], traits=[TRAIT])
        self.shelf.put(top)
        questions = {"base": ("base.show", INT), "shop": self.item, "far": self.gem, "top": ("top.t", ("top.k",)),
                     "both": ("top.t", INT)}
        asker = {"both": "top"}
        for package, left in ((self.shelf["other"].later(), set(questions)), (self.shelf["far"].later(), set(questions) - {"far"}),
                              (top.later(), {"base", "shop", "far"}), (self.shelf["shop"].later(), {"base", "far"}),
                              (self.shelf["base"].later(), set()), (bare("new", "top"), set(questions))):
            for name in questions:
                self.shelf.ask(questions[name], by=asker.get(name, name))
            self.assertEqual(self.shelf.kept, 5)
            asked = self.shelf.asked
            for change in (lambda: self.shelf.put(package), self.shelf.undo):
                change()
                self.assertEqual((self.shelf.asked, self.shelf.kept), (asked, len(left)), package.name)
                for name in questions:
                    self.shelf.ask(questions[name], by=asker.get(name, name))
                asked += 5 - len(left)
                self.assertEqual((self.shelf.asked, self.shelf.kept), (asked, 5))

    def test_a_package_that_is_no_longer_seen(self):
        """The answer goes by the words: the owner of a word saw the package before, or sees it behind."""
        shelf = Shelf(bare("low"), Package("mid", "low", sorts=[("c", 0)], traits=[TRAIT]), bare("side"))
        question = ("mid.t", ("mid.c",))
        shelf.ask(question, by="mid")
        shelf.put(bare("side").later())
        self.assertEqual(shelf.kept, 1)
        shelf.put(Package("mid", edition=2, sorts=[("c", 0)], traits=[TRAIT]))
        self.assertEqual(shelf.kept, 0)
        shelf.ask(question, by="mid")
        shelf.put(bare("low").later())
        self.assertEqual(shelf.kept, 1)
        shelf.undo()
        self.assertEqual((shelf.kept, shelf.undo().edition), (1, 2))
        self.assertEqual(shelf.kept, 0)

    def test_as_ask_in_the_house(self):
        source = random.Random(71)
        low = Package("low", sorts=LOW_SORTS, traits=LOW_TRAITS, rules=[
            Rule(("low.p", f(T)), ("low.p", T)), Rule(("low.p", A)), SoftRule(("low.q", T), ("low.p", T)), Rule(("low.q", B))])
        shelf = Shelf(low)
        for _ in range(60):
            term = source.choice([A, B])
            for _ in range(source.randrange(4)):
                term = f(term)
            question = (source.choice(["low.p", "low.q"]), term)
            self.assertEqual(shelf.ask(question, by="low"), ask(House(low), question))
        self.assertEqual(shelf.asked, shelf.kept)


class Changing(unittest.TestCase):
    def test_set_room(self):
        shelf = Shelf(base(), shop())
        for room in (2, 200, 150):
            self.assertIsNone(shelf.set_room(room=room))
            self.assertEqual(shelf.room, room)
        for room in (*PLAIN_VALUES, 201, -3):
            if room.__class__ is int and 2 <= room <= 200:
                continue
            self.assertEqual(raised(InvalidLimit, shelf.set_room, room).limit, room)
        self.assertEqual(shelf.room, 150)
        self.assertEqual(raised(InvalidLimit, shelf.set_room, 1).limit, 1)

    def test_put_all(self):
        shelf = Shelf(base())
        self.assertEqual(shelf.put_all(packages=[shop(), base().later(), bare("new")]), ("first", "quiet", "first"))
        self.assertEqual(shelf.put_all(()), ())
        self.assertEqual(len(shelf), 4)
        self.assertEqual(shelf, Shelf(base(), shop(), base().later(), bare("new")))
        self.assertEqual([shelf.undo().name for _ in range(4)], ["new", "base", "shop", "base"])

    def test_put_all_that_raises_in_the_middle(self):
        shelf = Shelf(base(), room=4)
        shelf.ask(("base.show", INT), by="base")
        before = state(shelf)
        for packages, kind in (([shop(), base().later(), bare("a", "none")], NoHouse), ([shop(), shop()], NoEdition),
                               ([shop(), bare("a"), bare("b"), bare("c")], TooMany),
                               ([base().later(), Package("a", rules=[BAD])], Refused)):
            raised(kind, shelf.put_all, packages)
            self.assertEqual(state(shelf), before)
        self.assertEqual(shelf.undo(), base())
        raised(NothingToUndo, shelf.undo)

    def test_kept_answers_behind_put_all(self):
        shelf = Shelf(base(), shop(), bare("far", "base", sorts=[("gem", 0)]))
        for by in ("base", "shop", "far"):
            shelf.ask(("base.show", {"base": INT, "shop": ("shop.item",), "far": ("far.gem",)}[by]), by=by)
        shelf.put_all([shop().later(), bare("new")])
        self.assertEqual((shelf.asked, shelf.kept), (3, 2))

    def test_would(self):
        shelf = Shelf(base(), shop())
        before = state(shelf)
        self.assertEqual([shelf.would(package=one) for one in (bare("new"), base().later(), changed(shop()))],
                         ["first", "quiet", "changed"])
        self.assertEqual(state(shelf), before)
        self.assertEqual(shelf.undo(), shop())

    def test_would_answer(self):
        shelf = Shelf(base(), shop())
        shelf.ask(("base.show", INT), by="base")
        before = state(shelf)
        later = shop().later(sorts=[("bag", 0)], rules=[Rule(("base.show", ("shop.bag",)))])
        question = ("base.show", ("shop.bag",))
        self.assertEqual(shelf.would_answer(later, question, by="shop"), ("shop", 1))
        self.assertIsNone(shelf.would_answer(package=shop().later(sorts=[("bag", 0)]), question=question, by="shop"))
        self.assertEqual(raised(UnknownWord, shelf.would_answer, shop().later(), question, by="shop").word, "shop.bag")
        self.assertEqual(raised(NoEdition, shelf.would_answer, later, question, by="none").name, "none")
        self.assertEqual(raised(NoEdition, shelf.would_answer, shop(), question, by="none").edition, 1)
        self.assertEqual(state(shelf), before)

    def test_twin(self):
        shelf = Shelf(base(), shop(), room=7)
        shelf.ask(("base.show", INT), by="base")
        twin = shelf.twin()
        self.assertEqual(state(twin), state(shelf))
        self.assertEqual(twin, shelf)
        twin.put(bare("new"))
        twin.ask(("base.show", ("shop.item",)), by="shop")
        self.assertEqual((len(shelf), shelf.asked, shelf.kept, len(twin), twin.asked, twin.kept), (2, 1, 1, 3, 2, 2))
        before = state(twin)
        shelf.undo()
        shelf.put(Package("shop", "base"))
        shelf.set_room(100)
        self.assertEqual(state(twin), before)
        self.assertEqual([twin.undo().name for _ in range(3)], ["new", "shop", "base"])

    def test_equality(self):
        one = Shelf(base(), shop(), room=9)
        other = Shelf(base(), shop())
        other.ask(("base.show", INT), by="base")
        self.assertTrue(one == other and not one != other)
        self.assertFalse(Shelf(bare("a"), bare("b")) == Shelf(bare("b"), bare("a")))
        self.assertFalse(Shelf(base()) == Shelf(base(), shop()))
        self.assertFalse(Shelf(base()) == Shelf(Package("base")))
        other.put(bare("new"))
        self.assertFalse(one == other)
        other.undo()
        self.assertTrue(one == other)
        for thing in (*PLAIN_VALUES, [base(), shop()], House(base(), shop())):
            self.assertFalse(one == thing)
            self.assertTrue(one != thing)


class Random(unittest.TestCase):
    """A shelf beside a plain model of what the document says of houses."""

    def test_houses(self):
        source, found = random.Random(73), Counter()
        for _ in range(60):
            shelf, names = Shelf(), ["a", "b", "c", "d", "e"]
            for _ in range(25):
                name = source.choice(names)
                if source.randrange(6) == 0 and len(shelf):
                    shelf.undo()
                    continue
                try:
                    found[shelf.put(self.edition(source, shelf, name, names))] += 1
                except (NoHouse, Mismatch, Refused) as error:
                    found[error.__class__.__name__] += 1
            for _ in range(15):
                editions = {name: 1 + source.randrange(shelf[name].edition) for name in shelf.names if source.randrange(2)}
                more = [name for name in shelf.names if source.randrange(3) == 0]
                self.check_house(shelf, more, editions, found)
        self.assertTrue(all(found[one] > 5 for one in ("first", "quiet", "loud", "changed", "house", "gap", "ring", "Mismatch")),
                        found)

    @staticmethod
    def edition(source, shelf, name, names):
        needs = [one for one in names if one != name and one in shelf and source.randrange(3) == 0]
        if name not in shelf:
            return Package(name, *needs, sorts=[("c", 0)], traits=[TRAIT])
        elder = shelf[name]
        kind = source.randrange(6)
        if kind == 0:
            return Package(name, *needs, edition=elder.edition + 1, sorts=[("c", 0)], traits=[TRAIT])
        if kind == 1 and not elder.rules:
            return elder.later(rules=[SoftRule((name + ".t", T))])
        return elder.later(*needs[:1])

    def check_house(self, shelf, names, editions, found):
        chosen = {name: editions.get(name, shelf[name].edition) for name in [*names, *editions]}
        waiting = list(chosen)
        for name in waiting:
            for need in shelf.package_at(name, chosen[name]).needs:
                if need not in chosen:
                    chosen[need] = shelf[need].edition
                    waiting.append(need)
        packages = [shelf.package_at(name, number) for name, number in chosen.items()]
        try:
            house = House(*packages)
        except NoHouse as error:
            other = raised(NoHouse, shelf.house, *names, **editions)
            self.assertEqual((other.reason, other.name), (error.reason, error.name))
            found["ring"] += 1
            return
        gaps = [(name, other) for name, number in chosen.items() for other, noted in shelf.noted(name, number).items()
                if other not in chosen or chosen[other] < noted
                or any(shelf.verdict(other, one) != "quiet" for one in range(noted + 1, chosen[other] + 1))]
        if gaps:
            error = raised(Mismatch, shelf.house, *names, **editions)
            self.assertEqual((error.name, error.other), min(gaps))
            found["gap"] += 1
        else:
            self.assertEqual(shelf.house(*names, **editions), house)
            found["house"] += 1


if __name__ == "__main__":
    unittest.main()
