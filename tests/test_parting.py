import random
import unittest

from helping import INT, NIL, PLAIN_VALUES, listed, pair, raised, random_term, random_terms, tower, triple
from nevermet.errors import BadPaper
from nevermet.parting import check_parted, parted
from nevermet.unify import unify

ONES, OTHERS = ("T", "U"), (listed("U"), "T")
STEPS = [("T", listed("U"), ("place", 0)), ("U", "T", ("place", 1)), ("T", listed("T"), ("put", 0, 1, 0))]
DEEP = 1200


def index_of(ones, others, thing):
    return raised(BadPaper, check_parted, ones, others, thing).index


class Parted(unittest.TestCase):
    def see(self, ones, others):
        steps = parted(ones, others)
        self.assertEqual(steps is None, unify(ones, others) is not None, (ones, others))
        if steps is None:
            return 0
        self.assertIsInstance(steps, list)
        self.assertIs(check_parted(ones, others, steps), True)
        return 1

    def test_ordinary(self):
        for ones, others, expected in (
                ((), (), 0), (("T",), ("T",), 0), (("T",), (INT,), 0), (("T", "U"), ("U", "T"), 0),
                ((INT,), (NIL,), 1), ((listed(INT),), (listed(NIL),), 1), (("T",), (listed("T"),), 1),
                ((listed("T"),), ("T",), 1), (("T", "T"), (INT, NIL), 1), ((INT, NIL), ("T", "T"), 1),
                (("T", "U", "T"), (INT, NIL, "U"), 1), (("T", "U"), (listed("U"), "T"), 1),
                (("T", "U"), (listed("U"), listed("T")), 1), (("A", "B", "C"), (listed("B"), listed("C"), "A"), 1),
                ((pair("T", "U"), "V"), (pair("V", listed("V")), "U"), 1), ((("a.b", "T"),), (("a.b", "T", "T"),), 1)):
            self.assertEqual(self.see(ones, others), expected, (ones, others))
        self.assertIsNone(parted(ones=("T",), others=(INT,)))

    def test_steps_of_one_place(self):
        self.assertEqual(parted((INT,), (NIL,)), [(INT, NIL, ("place", 0))])
        self.assertEqual(parted(("T",), (listed("T"),)), [("T", listed("T"), ("place", 0))])

    def test_random(self):
        hits = 0
        for seed in range(3000):
            hits += self.see(*random_terms(seed, ("A", "B", "C"), deep=3))
            hits += self.see(*random_terms(seed, ("A", "B", "C", "D", "E"), deep=2, most=6))
        self.assertGreater(hits, 1500)
        self.assertGreater(6000 - hits, 1500)

    def test_long_ways(self):
        names = [f"A{at}" for at in range(30)]
        self.see(tuple(names), tuple(names[1:]) + (listed(names[0]),))
        self.see(tuple(names), tuple(listed(name) for name in names[1:]) + (names[0],))
        self.see(tuple(names) + (names[0],), tuple(names[1:]) + (INT, NIL))

    def test_large_terms(self):
        self.see((tower(DEEP, "T"),), (tower(DEEP + 1, "T"),))
        self.see((tower(DEEP),), (tower(DEEP, NIL),))
        names = [f"A{at}" for at in range(40)], [f"B{at}" for at in range(40)]
        ones = tuple(name for row in names for name in row[:-1]) + (names[0][0],)
        others = tuple(pair(name, name) for row in names for name in row[1:]) + (names[1][0],)
        self.see(ones + ("A39", "B39"), others + (INT, NIL))
        self.see(ones + ("A39",), others + (listed("A39"),))

    def test_the_arguments_stay(self):
        ones, others = (pair("T", "U"),), (pair("U", listed("T")),)
        parted(ones, others).append(None)
        self.assertIs(check_parted(ones, others, parted(ones, others)), True)
        self.assertEqual((ones, others), ((pair("T", "U"),), (pair("U", listed("T")),)))


class Checked(unittest.TestCase):
    def test_the_example(self):
        self.assertIs(check_parted(ONES, OTHERS, STEPS), True)
        self.assertIs(check_parted(ones=ONES, others=OTHERS, thing=STEPS), True)

    def test_no_list(self):
        for thing in PLAIN_VALUES:
            if not isinstance(thing, list):
                self.assertEqual(index_of(ONES, OTHERS, thing), 0, thing)
        self.assertEqual(index_of(ONES, OTHERS, tuple(STEPS)), 0)
        self.assertEqual(index_of(ONES, OTHERS, []), 0)

    def test_the_last_step_is_not_impossible(self):
        self.assertEqual(index_of(ONES, OTHERS, STEPS[:2]), 2)
        self.assertEqual(index_of(ONES, OTHERS, STEPS[:1]), 1)
        self.assertEqual(index_of(ONES, OTHERS, STEPS + [STEPS[0]]), 4)
        same = [(INT, INT, ("place", 0))]
        self.assertEqual(index_of((INT,), (INT,), same), 1)
        self.assertEqual(index_of(("T",), ("T",), [("T", "T", ("place", 0))]), 1)
        self.assertEqual(index_of((listed("T"),), (listed("U"),), [(listed("T"), listed("U"), ("place", 0))]), 1)
        self.assertEqual(index_of((listed("U"),), ("T",), [(listed("U"), "T", ("place", 0))]), 1)
        self.assertEqual(index_of(("T",), ("U",), [("T", "U", ("place", 0))]), 1)

    def test_impossible_last_steps(self):
        for one, other in ((INT, NIL), (listed("T"), INT), (("a.b", "T"), ("a.b", "T", "T")), ("T", listed("T")),
                           (pair(INT, listed("T")), "T"), (listed("T"), ("a.b", "T"))):
            self.assertIs(check_parted((one,), (other,), [(one, other, ("place", 0))]), True)

    def test_entries_of_other_kinds(self):
        for thing in [*PLAIN_VALUES, ("T", listed("U")), list(STEPS[1]), STEPS[1] + (None,), ("U", "T", ["place", 1]),
                      ("U", "T", ()), ("U", "T", "place"), ("U", "T", None), ("U", "t", ("place", 1)),
                      ("u", "T", ("place", 1)), (None, "T", ("place", 1)), ("U", ["T"], ("place", 1))]:
            steps = [STEPS[0], thing, STEPS[2]]
            self.assertEqual(index_of(ONES, OTHERS, steps), 1, thing)
            self.assertEqual(index_of(ONES, OTHERS, [thing]), 0, thing)

    def see_source(self, step, right, wrong, before=STEPS[:2], ones=ONES, others=OTHERS):
        """Whether a step behind some others is right with some sources only."""
        index = len(before)
        for source in right:
            steps = [*before, (*step, source), ("T", listed("U"), ("place", 0))]
            self.assertNotEqual(index_of(ones, others, steps), index, source)
        for source in wrong:
            self.assertEqual(index_of(ones, others, [*before, (*step, source), STEPS[0]]), index, source)

    def test_place(self):
        self.see_source(("U", "T"), [("place", 1)],
                        [("place", 0), ("place", 2), ("place", -1), ("place", True), ("place",), ("place", 1, 0),
                         ("place", "1"), ("place", None), ("plac", 1), ("Place", 1), (None, 1), (1, "place"),
                         ("place", (1,)), ("part", 1), ("join", 1), ("put", 1)])
        self.see_source(("T", listed("U")), [("place", 0)], [("place", 1), ("place", False)])
        self.see_source(("T", "U"), [], [("place", 1), ("place", 0)])
        self.assertEqual(index_of((), (), [("T", listed("T"), ("place", 0))]), 0)

    def test_part(self):
        one, other = triple(INT, "T", listed("U")), triple("A", "B", "T")
        before = [(one, other, ("place", 0))]
        ones, others = (one, "T"), (other, listed("U"))
        wrong = [("part", 0, 3), ("part", 0, -1), ("part", 1, 0), ("part", 2, 0), ("part", -1, 0), ("part", 0),
                 ("part", False, 0), ("part", 0, "0"), ("part", None, 0), ("place", 0), ("part", 0, 0, 0)]
        steps = [(INT, "A"), ("T", "B"), (listed("U"), "T")]
        for at, step in enumerate(steps):
            others_of = [("part", 0, k) for k in range(3) if k != at] + [("part", 0, k) for k in (False, True)]
            index = 1
            self.assertNotEqual(index_of(ones, others, [*before, (*step, ("part", 0, at)), before[0]]), index)
            for source in wrong + others_of:
                self.assertEqual(index_of(ones, others, [*before, (*step, source), before[0]]), index, source)
        self.assertEqual(index_of(ones, others, [*before, ("A", INT, ("part", 0, 0))]), 1)

    def test_part_of_what_has_no_such_parts(self):
        for one, other in (("T", listed("U")), (listed("U"), "T"), (("a.b", "T"), ("a.c", "U")),
                           (("a.b", "T", "A"), ("a.b", "U")), ("T", "U")):
            steps = [(one, other, ("place", 0)), ("T", "U", ("part", 0, 0)), (INT, NIL, ("place", 1))]
            self.assertEqual(index_of((one, INT), (other, NIL), steps), 1, (one, other))

    def test_part_of_a_variable_with_digits(self):
        for one, other, step in (("T12", listed("U"), ("1", "U")), (listed("U"), "T12", ("U", "1")),
                                 ("T12", "U34", ("1", "3"))):
            steps = [(one, other, ("place", 0)), (*step, ("part", 0, 0)), (INT, NIL, ("place", 1))]
            self.assertEqual(index_of((one, INT), (other, NIL), steps), 1, (one, other))

    def test_join(self):
        ones, others = ("T", listed("A"), "T"), (INT, "T", "U")
        before = [("T", INT, ("place", 0)), (listed("A"), "T", ("place", 1)), ("T", "U", ("place", 2))]

        def see(step, source):
            steps = [*before, (*step, source), before[0]]
            index = index_of(ones, others, steps)
            return index == 5

        self.assertTrue(see((INT, listed("A")), ("join", 0, 1)))
        self.assertTrue(see((listed("A"), INT), ("join", 1, 0)))
        self.assertFalse(see((INT, listed("A")), ("join", 1, 0)))
        self.assertFalse(see((listed("A"), INT), ("join", 0, 1)))
        self.assertTrue(see((INT, "U"), ("join", 0, 2)))
        self.assertTrue(see(("U", listed("A")), ("join", 2, 1)))
        self.assertTrue(see((INT, INT), ("join", 0, 0)))
        self.assertTrue(see(("U", "U"), ("join", 2, 2)))
        self.assertTrue(see(("T", "T"), ("join", 2, 2)))
        self.assertFalse(see(("T", "U"), ("join", 2, 2)))
        self.assertFalse(see(("T", "T"), ("join", 0, 2)))
        self.assertFalse(see((INT, "T"), ("join", 0, 2)))
        for source in (("join", 0), ("join", 0, 1, 0), ("join", 0, 3), ("join", 3, 1), ("join", 0, 4), ("join", -3, 1),
                       ("join", False, True), ("join", 0, True), ("join", "0", 1), ("part", 0, 1), ("put", 0, 1)):
            self.assertFalse(see((INT, listed("A")), source), source)

    def test_join_needs_a_variable(self):
        ones, others = (INT, "T"), ("T", INT)
        before = [(INT, "T", ("place", 0)), ("T", INT, ("place", 1))]
        self.assertEqual(index_of(ones, others, [*before, ("T", "T", ("join", 0, 1))]), 2)
        self.assertEqual(index_of(ones, others, [*before, (INT, INT, ("join", 0, 1))]), 3)

    def test_put(self):
        ones, others = (pair("T", "A"), "T"), (listed("T"), pair("A", "B"))
        before = [(ones[0], others[0], ("place", 0)), ("T", others[1], ("place", 1))]
        put = (pair(others[1], "A"), listed(others[1]))

        def see(step, source, rows=before):
            return index_of(ones, others, [*rows, (*step, source), (INT, NIL, ("place", 9))]) == len(rows) + 1

        self.assertTrue(see(put, ("put", 0, 1, 0)))
        self.assertFalse(see(put[::-1], ("put", 0, 1, 0)))
        for source in (("put", 0, 1, 1), ("put", 0, 1, 2), ("put", 0, 1, -1), ("put", 0, 1, False), ("put", 0, 1),
                       ("put", 0, 1, None), ("put", 1, 0, 0), ("put", 0, 2, 0), ("put", 2, 1, 0), ("put", False, 1, 0),
                       ("put", 0, True, 0), ("put", -2, 1, 0), ("put", 0, -1, 0), ("put", 0, 1, 0, 0), ("join", 0, 1)):
            self.assertFalse(see(put, source), source)
        self.assertFalse(see((pair(others[1], "A"), others[0]), ("put", 0, 1, 0)))
        self.assertFalse(see((ones[0], listed(others[1])), ("put", 0, 1, 0)))
        self.assertTrue(see((others[1], others[1]), ("put", 1, 1, 0)))

    def test_put_for_the_right_term_and_nowhere(self):
        ones, others = (listed("A"), pair("T", "U"), INT), ("T", "B", "C")
        before = [(listed("A"), "T", ("place", 0)), (pair("T", "U"), "B", ("place", 1)), (INT, "C", ("place", 2))]

        def see(step, source):
            return index_of(ones, others, [*before, (*step, source), before[0]]) == 5

        self.assertTrue(see((pair(listed("A"), "U"), "B"), ("put", 1, 0, 1)))
        self.assertFalse(see((pair(listed("A"), "U"), "B"), ("put", 1, 0, 0)))
        self.assertTrue(see((pair("T", "U"), "B"), ("put", 1, 2, 1)))
        self.assertFalse(see((pair("T", "U"), "B"), ("put", 1, 2, 0)))
        self.assertFalse(see((pair("T", "U"), "B"), ("put", 1, 0, 1)))

    def test_put_in_both_directions(self):
        ones, others = ("T", pair("T", "U")), ("U", "A")
        before = [("T", "U", ("place", 0)), (pair("T", "U"), "A", ("place", 1))]
        for side, term in ((0, pair("U", "U")), (1, pair("T", "T"))):
            steps = [*before, (term, "A", ("put", 1, 0, side)), (INT, NIL, None)]
            self.assertEqual(index_of(ones, others, steps), 3)
            steps[2] = (term, "A", ("put", 1, 0, 1 - side))
            self.assertEqual(index_of(ones, others, steps), 2)

    def test_later_steps_are_not_mentioned(self):
        steps = [("T", listed("U"), ("place", 0)), ("T", listed("T"), ("put", 0, 2, 0)), ("U", "T", ("place", 1))]
        self.assertEqual(index_of(ONES, OTHERS, steps), 1)
        self.assertEqual(index_of((listed(INT),), (listed(NIL),), [(INT, NIL, ("part", 0, 0))]), 0)
        self.assertEqual(index_of((listed(INT),), (listed(NIL),), [(INT, NIL, ("part", 1, 0)),
                                                                  (listed(INT), listed(NIL), ("place", 0))]), 0)

    def test_the_thing_stays(self):
        steps = list(STEPS)
        check_parted(ONES, OTHERS, steps)
        self.assertEqual(steps, STEPS)

    def test_changed_steps(self):
        source = random.Random(5)
        seen = 0
        for seed in range(600):
            ones, others = random_terms(seed, ("A", "B", "C"), deep=2, most=5)
            steps = parted(ones, others)
            if steps is None:
                continue
            at = source.randrange(len(steps))
            left, right, told = steps[at]
            for step in ((left, right, told[:-1]), (left, told), (right, left, told), (pair(left, left), right, told),
                         (left, listed(right), told), (left, right, told + (0,)), (left, right, list(told))):
                if step[:2] != (left, right) or step[2:] != (told,):
                    changed = [*steps[:at], step, *steps[at + 1:]]
                    if step == (right, left, told) and told[0] == "join" and steps[told[1]][:2] == steps[told[2]][:2]:
                        continue
                    self.assertEqual(index_of(ones, others, changed), at, changed)
                    seen += 1
        self.assertGreater(seen, 1000)

    def test_nothing_parts_what_can_be_unified(self):
        source = random.Random(9)
        for seed in range(300):
            ones, others = random_terms(seed, ("A", "B"), deep=2)
            if unify(ones, others) is None:
                continue
            for _ in range(20):
                steps = [(one, other, ("place", k)) for k, (one, other) in enumerate(zip(ones, others))]
                for _ in range(3):
                    steps.append((random_term(source, ("A", "B"), 2), random_term(source, ("A", "B"), 2),
                                  source.choice([("join", 0, 0), ("put", 0, 0, 0), ("part", 0, 0), ("put", 1, 0, 1)])))
                raised(BadPaper, check_parted, ones, others, steps)


if __name__ == "__main__":
    unittest.main()
