"""Member expressions that are settled: point 24."""

import random
import unittest
from collections import Counter

from helping import INT, base, listed, pair, raised, slow_fill, slow_pieces, tower
from nevermet.asking import ask
from nevermet.errors import NoAnswer, TooMany, UnknownWord
from nevermet.houses import House
from nevermet.looks import is_let_by
from nevermet.members import settle, settling
from nevermet.packages import Package
from nevermet.rules import Rule, SoftRule


def bag(term):
    return ("box.bag", term)


def item(term):
    return ("box.holds.item", term)


def key(term):
    return ("box.holds.key", term)


def both(one, other):
    return ("box.two", one, other)


def join(one, other):
    return ("box.join.out", one, other)


HOLDS = "box.holds"
BOX = Package(
    "box", "base", sorts=[("bag", 1), ("two", 2), ("end", 0)],
    traits=[("holds", 1, False, ("item", "key")), ("join", 2, False, ("out",)), ("plain", 1, False, ()), ("m", 1, True, ())],
    rules=[Rule((HOLDS, bag("T")), item="T", key=bag("T")),
           Rule((HOLDS, listed("T")), (HOLDS, "T"), item=listed(item("T")), key=both(item("T"), key("T"))),
           SoftRule((HOLDS, both("A", "B")), (HOLDS, "B"), item=item("B"), key=both(key("B"), key("B"))),
           Rule(("box.join", bag("T"), "U"), (HOLDS, "U"), out=both("T", item("U"))),
           Rule((HOLDS, ("box.end",)), item=tower(3), key=INT),
           Rule((HOLDS, both(("box.end",), "B")), (HOLDS, "B"), item=INT, key=INT)])
HOUSE = House(base(), BOX)


def slow_first(expression):
    """The path to the member word that is written first among those whose parts are terms."""
    found = []

    def walk(term, path):
        inner = [piece for part in term[1:] for piece in slow_pieces(part) if piece[0].count(".") == 2]
        if term[0].count(".") == 2 and not inner:
            found.append(path)
        for at, part in enumerate(term[1:]):
            walk(part, path + (at + 1,))
    walk(expression, ())
    return found[0] if found else None


def slow_put(expression, path, term):
    if not path:
        return term
    return expression[:path[0]] + (slow_put(expression[path[0]], path[1:], term),) + expression[path[0] + 1:]


def slow_settling(house, expression):
    """The expressions after each replacement, or the error: (class, what it says)."""
    found = []
    while True:
        path = slow_first(expression)
        if path is None:
            return found
        word = expression
        for at in path:
            word = word[at]
        trait, _, member = word[0].rpartition(".")
        question = (trait, *word[1:])
        try:
            told = ask(house, question)
        except TooMany as error:
            return TooMany, error.limit
        if told is None:
            return NoAnswer, question
        rule = house.rule(*told)
        put = slow_fill(rule.members[member], rule.fills(question))
        alone = slow_settling(house, put) if slow_first(put) is not None else [put]
        if isinstance(alone, tuple):
            return alone
        if len(slow_pieces(alone[-1])) > 200:
            return TooMany, 200
        expression = slow_put(expression, path, put)
        found.append(expression)


class Settled(unittest.TestCase):
    def both_raise(self, kind, expression, house=HOUSE):
        error = raised(kind, settle, house, expression)
        other = raised(kind, lambda: next(settling(house, expression)))
        self.assertEqual(vars(error), vars(other))
        return list(vars(error).values())[0]

    def test_the_packages_are_let_by(self):
        self.assertTrue(all(is_let_by(HOUSE, name) for name in HOUSE.names))

    def test_a_term_without_member_words(self):
        for term in (INT, listed(INT), both(bag(INT), tower(4))):
            self.assertEqual(settle(HOUSE, term), term)
            self.assertEqual(list(settling(HOUSE, term)), [])

    def test_one_member_word(self):
        self.assertEqual(settle(HOUSE, item(bag(INT))), INT)
        self.assertEqual(settle(house=HOUSE, expression=key(bag(INT))), bag(INT))
        self.assertEqual(list(settling(house=HOUSE, expression=listed(item(bag(INT))))), [listed(INT)])
        self.assertEqual(settle(HOUSE, join(bag(INT), bag(listed(INT)))), both(INT, listed(INT)))
        self.assertEqual(settle(HOUSE, item(("box.end",))), tower(3))

    def test_members_of_members(self):
        row = listed(listed(bag(INT)))
        self.assertEqual(list(settling(HOUSE, item(row))), [
            listed(item(listed(bag(INT)))), listed(listed(item(bag(INT)))), listed(listed(INT))])
        self.assertEqual(list(settling(HOUSE, key(listed(bag(INT))))), [
            both(item(bag(INT)), key(bag(INT))), both(INT, key(bag(INT))), both(INT, bag(INT))])

    def test_member_words_within_member_words_and_in_several_parts(self):
        """Always the first one that is written, of those whose parts are terms."""
        one = join(bag(item(bag(INT))), bag(key(bag(INT))))
        self.assertEqual(list(settling(HOUSE, both(one, item(bag(bag(INT)))))), [
            both(join(bag(INT), bag(key(bag(INT)))), item(bag(bag(INT)))),
            both(join(bag(INT), bag(bag(INT))), item(bag(bag(INT)))),
            both(both(INT, item(bag(bag(INT)))), item(bag(bag(INT)))),
            both(both(INT, bag(INT)), item(bag(bag(INT)))),
            both(both(INT, bag(INT)), bag(INT))])
        self.assertEqual(settle(HOUSE, item(item(item(bag(bag(bag(INT))))))), INT)

    def test_what_stands_behind_in_a_term_of_three_parts(self):
        """The parts that wait keep their order while an earlier one is replaced."""
        house = House(base(), BOX, Package("big", sorts=[("three", 3)]))
        def three(*parts):
            return ("big.three", *parts)
        end = ("box.end",)
        one = three(item(bag(INT)), end, key(bag(end)))
        self.assertEqual(list(settling(house, one)), [three(INT, end, key(bag(end))), three(INT, end, bag(end))])
        self.assertEqual(settle(house, three(one, one, bag(INT))), three(three(INT, end, bag(end)), three(INT, end, bag(end)), bag(INT)))

    def test_the_answer_is_the_lowest_rule(self):
        self.assertEqual(settle(HOUSE, item(both(("box.end",), bag(listed(INT))))), INT)
        self.assertEqual(settle(HOUSE, item(both(INT, bag(listed(INT))))), listed(INT))

    def test_unknown_words(self):
        """The least word or member word, before all else."""
        for expression, word in [
                (("no.no",), "no.no"), (item(("no.no",)), "no.no"), (("box.holds.no", INT), "box.holds.no"),
                (("box.plain.item", INT), "box.plain.item"), (("box.m.item", INT), "box.m.item"),
                (("box.none.item", INT), "box.none.item"), (("far.far.far", ("far.a",)), "far.a"),
                (("far.a.far", ("far.b",)), "far.a.far"), (both(item(INT), ("base.show", INT)), "base.show"),
                (both(("zed.z",), both(item(INT), ("zed.y",))), "zed.y"), (("box.bag.item", INT), "box.bag.item"),
                (both(item(tower(1, ("no.b",))), ("box.holds.non", INT)), "box.holds.non")]:
            self.assertEqual(self.both_raise(UnknownWord, expression), word)

    def test_no_answer(self):
        self.assertEqual(self.both_raise(NoAnswer, item(INT)), (HOLDS, INT))
        self.assertEqual(self.both_raise(NoAnswer, both(item(bag(INT)), item(listed(INT)))), (HOLDS, listed(INT)))
        self.assertEqual(self.both_raise(NoAnswer, both(item(item(bag(INT))), item(listed(INT)))), (HOLDS, INT))
        # The inner one is replaced first, and what it gives is asked.
        self.assertEqual(self.both_raise(NoAnswer, item(listed(item(bag(INT))))), (HOLDS, listed(INT)))

    def test_more_than_two_hundred_symbols(self):
        """Each `two` doubles the key: so many symbols by itself, whatever stands around it."""
        def keyed(many, inner):
            for _ in range(many):
                inner = both(INT, inner)
            return inner
        for many, count in ((0, 2), (1, 5), (5, 95), (6, 191)):
            found = settle(HOUSE, key(keyed(many, bag(INT))))
            self.assertEqual(len(slow_pieces(found)), count)
        self.assertEqual(self.both_raise(TooMany, key(keyed(7, bag(INT)))), 200)
        # The whole may have more.
        whole = settle(HOUSE, both(key(keyed(6, bag(INT))), key(keyed(6, bag(INT)))))
        self.assertEqual(len(slow_pieces(whole)), 383)

    def test_just_two_hundred(self):
        """The member of `c` has 5 symbols, that of `d` one more than both parts, that of `e` one more than its part."""
        rules = [Rule(("w.t", ("w.c",)), x=tower(4)),
                 Rule(("w.t", ("w.d", "T", "U")), ("w.t", "T"), ("w.t", "U"), x=("w.d", ("w.t.x", "T"), ("w.t.x", "U"))),
                 Rule(("w.t", ("w.e", "T")), ("w.t", "T"), x=("w.e", ("w.t.x", "T")))]
        house = House(base(), Package("w", "base", sorts=[("c", 0), ("d", 2), ("e", 1)], traits=[("t", 1, False, ("x",))],
                                      rules=rules))
        term = ("w.c",)
        for _ in range(5):
            term = ("w.d", term, term)
        for _ in range(9):
            term = ("w.e", term)
        self.assertEqual(len(slow_pieces(settle(house, ("w.t.x", term)))), 200)
        self.assertEqual(len(list(settling(house, ("w.t.x", term)))), 9 + 63)
        self.assertEqual(self.both_raise(TooMany, ("w.t.x", ("w.e", term)), house), 200)
        self.assertEqual(len(slow_pieces(settle(house, ("w.e", ("w.t.x", term))))), 201)
        # A member that would have more symbols than could be written is refused at once.
        for _ in range(80):
            term = ("w.d", ("w.c",), ("w.e", term))
        self.assertEqual(self.both_raise(TooMany, ("w.t.x", term), house), 200)

    def test_the_first_error_in_the_order_of_the_replacements(self):
        def keyed(many, inner):
            for _ in range(many):
                inner = both(INT, inner)
            return inner
        large, no, many = key(keyed(7, bag(INT))), item(INT), ("many.t.x", *[("many.a",)] * 3)
        letters = "abcdefg"
        rules = []
        for one, other in zip(letters, letters[1:]):
            here, there = (f"many.{one}",), (f"many.{other}",)
            rules.append(Rule(("many.t", "T", "U", here), ("many.t", "T", "U", there), ("many.t", "T", there, "U"),
                              ("many.t", there, "U", "T"), x="T"))
        house = House(base(), BOX, Package("many", sorts=[(one, 0) for one in letters], traits=[("t", 3, False, ("x",))],
                                           rules=rules))
        self.assertEqual(self.both_raise(TooMany, many, house), 300)
        for one, first in ((large, (TooMany, 200)), (no, (NoAnswer, (HOLDS, INT))), (many, (TooMany, 300))):
            for other in (large, no, many):
                self.assertEqual(self.both_raise(first[0], both(one, other), house), first[1])
                self.assertEqual(self.both_raise(first[0], both(item(bag(INT)), both(one, other)), house), first[1])

    def test_several_walked_by_turns(self):
        ones, others = settling(HOUSE, item(listed(bag(INT)))), settling(HOUSE, key(listed(bag(INT))))
        found = [(next(ones), next(others)) for _ in range(2)]
        self.assertEqual(found[1][0], listed(INT))
        self.assertEqual((list(ones), list(others)), ([], [both(INT, bag(INT))]))

    def test_random_expressions(self):
        source, found = random.Random(41), Counter()

        def grown(deep):
            kind = source.randrange(9) if deep > 1 else source.randrange(3)
            if kind < 2:
                return source.choice([INT, bag(INT), ("box.end",), bag(bag(INT))])
            makes = {2: bag, 3: listed, 4: item, 5: key, 6: item}
            if kind in makes and deep > 1:
                return makes[kind](grown(deep - 1))
            if deep <= 1:
                return INT
            return source.choice([both, join])(grown(deep - 1), grown(deep - 1))
        for _ in range(1500):
            expression = grown(5)
            expected = slow_settling(HOUSE, expression)
            if isinstance(expected, tuple):
                self.assertEqual(self.both_raise(expected[0], expression), expected[1])
                found[expected[0].__name__] += 1
            else:
                self.assertEqual(list(settling(HOUSE, expression)), expected)
                self.assertEqual(settle(HOUSE, expression), [expression, *expected][-1])
                found[min(len(expected), 3)] += 1
        self.assertTrue(all(found[one] > 20 for one in ("NoAnswer", 0, 1, 2, 3)), found)

    def test_the_example(self):
        box = Package("box", "base", sorts=[("bag", 1)], traits=[("holds", 1, False, ("item",))], rules=[
            Rule(("box.holds", ("box.bag", "T")), item="T"),
            Rule(("box.holds", listed("T")), ("box.holds", "T"), item=listed(("box.holds.item", "T")))])
        self.assertEqual(settle(House(base(), box), ("box.holds.item", listed(("box.bag", INT)))), listed(INT))
        self.assertNotEqual(pair(INT, INT), INT)


if __name__ == "__main__":
    unittest.main()
