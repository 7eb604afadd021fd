"""The promises of point 1 over the whole program: shelves, editions, houses of packages whose writers never met."""

import random
import unittest
from collections import Counter

from helping import A, B, random_ground, random_high, random_let_by, random_question
from looking import KINDS, PLACES, lower_rule, random_looked, random_rules, random_seeing
from nevermet.asking import ask, holds
from nevermet.changes import judge
from nevermet.errors import Mismatch, NoAnswer, Refused, TooMany
from nevermet.evidence import evidence
from nevermet.evidencecheck import check_evidence
from nevermet.houses import House
from nevermet.looks import is_let_by, look, need_let_by
from nevermet.packages import Package
from nevermet.refutation import refutation
from nevermet.refutationcheck import check_refutation
from nevermet.rules import Rule, SoftRule
from nevermet.running import run_copied, run_handed
from nevermet.shelf import Shelf
from nevermet.tablecheck import check_table
from nevermet.tables import lasting_table
from nevermet.views import view
from test_running import random_packages, repaired

T = "T"


def edition(source, package):
    """A next edition that is often quiet: more sorts, and rules for them."""
    fresh = "new" + "abcdefghij"[package.edition]
    word = (f"{package.name}.{fresh}",)
    kinds = [("low." + one, places, one in "mno") for one, places in (("p", 1), ("q", 1), ("m", 1), ("r", 2))]
    rules = random_rules(source, kinds, kinds, [word, word, (f"{package.name}.{fresh}w", T)], 3)
    if package.name == "low" and source.randrange(3) == 0:
        rules += random_rules(source, KINDS, KINDS, PLACES, 1)
    if package.rules and source.randrange(4) == 0:
        rules.append(lower_rule(source, source.choice(package.rules)))
    if len(package.sorts) > 10:
        return package.later()
    return package.later(sorts=[(fresh, 0), (fresh + "w", 1)], rules=rules[:30 - len(package.rules)])


def ground_questions(source, house, name):
    """Some ground questions in words of the view of a package, with some words of the next editions."""
    leaves = [A, B] + [(f"{one}.{sort}",) for one in house.view(name) for sort, places in house[one].sorts if places == 0]
    return [random_question(source, leaves) for _ in range(6)]


class Editions(unittest.TestCase):
    def test_quiet_editions_harm_nobody(self):
        """A yes remains a yes, hard answers remain, a lasting no remains a no, and papers of looks remain."""
        source, found = random.Random(91), Counter()
        for _ in range(150):
            low = random_let_by(source) if source.randrange(2) else random_looked(source, 0, 8)
            if not is_let_by(House(low), "low"):
                continue
            shelf = Shelf(low)
            for name in ("higha", "highb", "highc"):
                high = (random_high if source.randrange(2) else random_seeing)(source, low, name=name)
                try:
                    shelf.put(high)
                except Refused:
                    found["refused"] += 1
            start = shelf.house(*shelf.names)
            asked = [(name, question) for name in shelf.names for question in ground_questions(source, start, name)]
            for _ in range(5):
                name = source.choice(shelf.names)
                later = edition(source, shelf[name])
                try:
                    verdict = shelf.put(later)
                except Refused:
                    found["refused"] += 1
                    continue
                found[verdict] += 1
                if verdict != "quiet":
                    shelf.undo()
            house = shelf.house(*shelf.names)
            self.assertIsNone(need_let_by(house))
            for name in start.names:
                if house[name].edition == start[name].edition:
                    self.assertEqual(look(house, name), look(start, name))
            for name, question in asked:
                self.check_question(start, house, name, question, found)
        self.assertTrue(all(found[one] > 20 for one in ("quiet", "yes", "hard", "lasting", "no")), found)

    def check_question(self, start, house, name, question, found):
        # A lasting no of a package is a no wherever this package has the same edition.
        table = lasting_table(start, name, question) if house[name] == start[name] else None
        told = ask(start, question)
        if told is not None:
            self.assertTrue(holds(house, question))
            found["yes"] += 1
            if not start.rule(*told).soft and start.sort_of(question[0]) == "trait":
                self.assertEqual(ask(house, question), told)
                found["hard"] += 1
        elif table is not None:
            self.assertFalse(holds(house, question))
            self.assertTrue(check_refutation(house, question, refutation(house, question)))
            found["lasting"] += 1
        found["no"] += told is None
        if table is not None:
            self.assertIs(check_table(house, name, question, table), True)

    def test_any_order_of_quiet_editions(self):
        """Quiet editions of different packages may come in any order; the house and its looks are the same."""
        source, many = random.Random(92), 0
        for _ in range(80):
            low = random_let_by(source)
            high = random_high(source, low)
            laters = [edition(source, low), edition(source, high)]
            found = []
            for order in (laters, laters[::-1]):
                shelf = Shelf(low, high)
                try:
                    verdicts = shelf.put_all(order)
                except Refused:
                    continue
                if set(verdicts) == {"quiet"}:
                    found.append(shelf.house("high"))
            if found:
                self.assertEqual(len(found), 2)
                self.assertEqual(*found)
                self.assertEqual([look(found[0], name) for name in found[0].names],
                                 [look(found[1], name) for name in found[1].names])
                many += 1
        self.assertGreater(many, 20)

    def test_houses_of_editions_that_can_stand_together(self):
        """Whatever editions stand together, no package must be looked at again, and all get the same answers."""
        source, found = random.Random(93), Counter()
        for _ in range(60):
            low = random_let_by(source)
            shelf = Shelf(low)
            for name in ("higha", "highb", "highc"):
                for one in (random_high(source, shelf["low"], name=name), edition(source, shelf["low"])):
                    try:
                        found[shelf.put(one)] += 1
                    except (Refused, Mismatch) as error:
                        found[error.__class__.__name__] += 1
            for _ in range(10):
                editions = {name: 1 + source.randrange(shelf[name].edition) for name in shelf.names if source.randrange(2)}
                try:
                    house = shelf.house_of(editions)
                except Mismatch:
                    found["apart"] += 1
                    continue
                self.assertIsNone(need_let_by(house))
                found["together"] += 1
                for name in house.names:
                    for question in ground_questions(source, house, name)[:2]:
                        if all(word in [piece for one in house.view(name) for piece in house[one].words] for word in names_in(question)):
                            self.check_answers(house, name, question)
        self.assertTrue(all(found[one] > 20 for one in ("quiet", "together", "apart")), found)

    def check_answers(self, house, name, question):
        """The same answers, evidence and refutations for the package and the whole house."""
        part = view(house, name)
        self.assertEqual(ask(house, question, by=name), ask(house, question))
        try:
            paper = evidence(house, question)
        except NoAnswer:
            self.assertEqual(refutation(part, question), refutation(house, question))
            return
        self.assertEqual(evidence(part, question), paper)
        self.assertIs(check_evidence(part, question, paper), True)

    def test_a_loud_rule_has_a_stranger(self):
        """It was let by beside the elder edition, and is refused beside the next one."""
        source, many = random.Random(94), 0
        for _ in range(300):
            low = random_looked(source, 0, 5)
            if not is_let_by(House(low), "low"):
                continue
            later = low.later(rules=random_rules(source, KINDS, KINDS, PLACES, 2))
            try:
                word, notes = judge(House(low), later)
            except Refused:
                continue
            for note in notes:
                if note[1] == "loud":
                    self.assertEqual(look(House(low, note[3]), note[3].name)[0], "let by")
                    self.assertEqual(look(House(later, note[3]), note[3].name)[0], "refused")
                    shelf = Shelf(low, note[3])
                    self.assertEqual(shelf.put(later), "loud")
                    many += 1
        self.assertGreater(many, 20)


class Functions(unittest.TestCase):
    def test_steps_stay_resolved_behind_quiet_editions(self):
        """A function does the same wherever it is called from, by handing on and by copies."""
        source, found = random.Random(95), Counter()
        for _ in range(400):
            house = repaired(random_packages(source))
            if house is None:
                continue
            low, high = house["low"], house["high"]
            later = edition(source, low)
            try:
                shelf = Shelf(low, high)
                verdict = shelf.put(later)
            except Refused:
                continue
            found[verdict] += 1
            if verdict == "quiet":
                house = shelf.house("high")
                for function in high.functions:
                    terms = [random_ground(source, (A, B, ("high.c",), (f"low.new{'abc'[low.edition]}",))) for _ in function.variables]
                    try:
                        self.assertEqual(run_handed(house, f"high.{function.name}", *terms),
                                         run_copied(house, f"high.{function.name}", *terms))
                        found["run"] += 1
                    except (NoAnswer, TooMany) as error:
                        other = error.__class__
                        with self.assertRaises(other):
                            run_copied(house, f"high.{function.name}", *terms)
        self.assertGreater(found["run"], 20, found)


def names_in(question):
    """The words of a question."""
    found = [question[0]]
    for place in question[1:]:
        found += names_in(place)
    return found


class Reasons(unittest.TestCase):
    def test_soft_answers_may_change(self):
        """Only hard rules are promised to answer what they answered: a quiet edition goes beneath a soft one."""
        low = Package("low", sorts=[("a", 0)], traits=[("t", 1, False, ())], rules=[SoftRule(("low.t", T))])
        shelf = Shelf(low)
        question = ("low.t", A)
        self.assertEqual(shelf.ask(question, by="low"), ("low", 0))
        self.assertEqual(shelf.put(low.later(rules=[Rule(question)])), "quiet")
        self.assertEqual(shelf.ask(question, by="low"), ("low", 1))


if __name__ == "__main__":
    unittest.main()
