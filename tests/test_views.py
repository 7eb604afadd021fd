"""Views, what can be asked there, houses put together and what they share; the promises of point 1 about houses."""

import random
import unittest
from collections import Counter

from helping import A, B, LOW_SORTS, f, base, random_high, random_let_by, random_question, raised, shop
from looking import random_looked, random_seeing
from nevermet.asking import ask, holds
from nevermet.errors import NoHouse, TooMany
from nevermet.evidence import evidence
from nevermet.functions import Function
from nevermet.houses import House
from nevermet.joins import joined, shared
from nevermet.looks import look, need_let_by
from nevermet.packages import Package
from nevermet.refutation import refutation
from nevermet.rules import Rule, beneath
from nevermet.chains import chain
from nevermet.views import askable, view


def bare(name, *needs, edition=1, sorts=()):
    return Package(name, *needs, edition=edition, sorts=[(one, 0) for one in sorts])


class Views(unittest.TestCase):
    def setUp(self):
        self.house = House(bare("a"), bare("b", "a"), bare("c", "b"), bare("d", "a"), bare("e", "c", "d"))

    def test_view(self):
        for name, names in [("a", "a"), ("b", "ab"), ("c", "abc"), ("d", "ad"), ("e", "abcde")]:
            found = view(self.house, name)
            self.assertEqual(found, House(*[self.house[one] for one in names]))
            self.assertEqual(found.names, tuple(names))
        self.assertEqual(view(house=self.house, name="b"), view(view(self.house, "c"), "b"))

    def test_packages_that_are_not_let_by(self):
        bad = Package("bad", "base", rules=[Rule(("base.none", ("no.no",)))])
        self.assertEqual(view(House(base(), bad, shop()), "bad"), House(base(), bad))
        self.assertEqual(askable(House(base(), bad, shop()), "bad"), ("base.int", "base.list", "base.show"))

    def test_askable(self):
        one = Package("one", "base", sorts=[("z", 0), ("b", 2)], traits=[("t", 1, False, ("item",)), ("m", 2, True, ())],
                      functions=[Function("f"), Function("g", "T")])
        house = House(one, base(), shop(), Package("none"))
        self.assertEqual(askable(house, "one"), ("base.int", "base.list", "base.show", "one.b", "one.m", "one.t", "one.z"))
        self.assertEqual(askable(house=house, name="shop"), ("base.int", "base.list", "base.show", "shop.item"))
        self.assertEqual(askable(house, "none"), ())


class Joins(unittest.TestCase):
    def test_joined(self):
        one, other = House(base(), shop()), House(base(), bare("c", "base"))
        self.assertEqual(joined(), House())
        self.assertEqual(joined(one), one)
        self.assertEqual(joined(House(), one, House()), one)
        whole = House(base(), shop(), bare("c", "base"))
        self.assertEqual(joined(one, other), whole)
        self.assertEqual(joined(other, one, other, House(bare("z"))), House(base(), shop(), bare("c", "base"), bare("z")))
        self.assertEqual(joined(one, other), joined(other, one))

    def test_unlike_packages(self):
        ones = House(bare("a"), bare("b"), bare("c"))
        others = House(bare("a"), bare("b", sorts=["k"]), bare("c", edition=2))
        for houses in ((ones, others), (others, ones), (ones, House(), ones, others)):
            error = raised(NoHouse, joined, *houses)
            self.assertEqual((error.reason, error.name), ("edition", "b"))
        error = raised(NoHouse, joined, House(bare("c")), others, House(bare("a", edition=3)))
        self.assertEqual((error.reason, error.name), ("edition", "a"))

    def test_too_many(self):
        names = "abcdefghijklm"
        ones, others = House(*map(bare, names[:7])), House(*map(bare, names[6:]))
        self.assertEqual(raised(TooMany, joined, ones, others).limit, 12)
        self.assertEqual(len(joined(ones, House(*map(bare, names[6:12])))), 12)
        # Unlike packages go before too many.
        error = raised(NoHouse, joined, ones, others, House(bare("m", edition=2)))
        self.assertEqual((error.reason, error.name), ("edition", "m"))

    def test_shared(self):
        one = House(bare("a"), bare("b", "a"), bare("c"), bare("d", "c"), bare("e", "d"), bare("f"))
        other = House(bare("a"), bare("b", "a"), bare("c", edition=2), bare("d", "c"), bare("e", "d"), bare("g"))
        for ones, others in ((one, other), (other, one)):
            self.assertEqual(shared(ones, others), House(bare("a"), bare("b", "a")))
        self.assertEqual(shared(one=one, other=one), one)
        self.assertEqual(shared(one, House()), House())
        self.assertEqual(shared(House(bare("x")), House(bare("y"))), House())
        self.assertEqual(shared(House(bare("x")), House(bare("x", edition=2))), House())
        # What a package sees differs although what it needs is equal.
        ones = House(bare("a"), bare("b", "a"), bare("c", "b"))
        others = House(bare("a", sorts=["k"]), bare("b", "a"), bare("c", "b"))
        self.assertEqual(shared(ones, others), House())


def strangers(source, low, many):
    """Packages that need `low`, each let by in the house of its view alone."""
    found = []
    for at in range(many):
        name = "high" + "abcdef"[at]
        one = (random_high if source.randrange(2) else random_seeing)(source, low, name=name)
        if look(House(low, one), name)[0] == "let by":
            found.append(one)
    return found


class Strangers(unittest.TestCase):
    """Each package is looked at in the house of its view, and then all are put together."""

    def test_each_one_is_still_let_by_with_the_same_papers(self):
        source, found = random.Random(31), Counter()
        for _ in range(300):
            low = random_let_by(source) if source.randrange(2) else random_looked(source, 2, 8)
            if look(House(low), "low")[0] != "let by":
                continue
            apart = strangers(source, low, 4)
            house = joined(House(low), *[House(low, one) for one in apart])
            self.assertIsNone(need_let_by(house))
            for one in [low, *apart]:
                papers = look(view(house, one.name), one.name)
                self.assertEqual(look(house, one.name), papers)
                found[len(papers[1]) > 0] += 1
            found["apart"] += len(apart)
        self.assertGreater(min(found[True], found["apart"]), 100, found)

    def test_one_answer(self):
        """The same answer and reasons in each view that has the words; the rules that answer are beneath one another."""
        source, found = random.Random(32), Counter()
        for _ in range(150):
            low = random_let_by(source)
            apart = strangers(source, low, 3)
            house = joined(*[House(low, one) for one in apart], House(low))
            for one in [low, *apart]:
                own = () if one.name == "low" else ((one.name + ".c",),)
                for _ in range(6):
                    question = random_question(source, (A, B, *own))
                    told = ask(house, question)
                    self.assertEqual(ask(house, question, by=one.name), told)
                    self.assertEqual(ask(view(house, one.name), question), told)
                    if holds(house, question):
                        self.assertEqual(evidence(view(house, one.name), question), evidence(house, question))
                    else:
                        self.assertEqual(refutation(view(house, one.name), question), refutation(house, question))
                    if house.sort_of(question[0]) == "trait":
                        pairs = chain(house, question)
                        for lower, upper in zip(pairs, pairs[1:]):
                            self.assertTrue(beneath(house.rule(*lower), house.rule(*upper)))
                        self.assertEqual(pairs[:1], () if told is None else (told,))
                        found[len(pairs)] += 1
        self.assertTrue(found[0] and found[1] and found[2], found)


if __name__ == "__main__":
    unittest.main()
