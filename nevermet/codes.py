"""Questions under codes, and the rules that fit them."""

from nevermet.kinds import is_index
from nevermet.names import is_word
from nevermet.store import Store
from nevermet.terms import MOST_PLACES
from nevermet.unify import have_meet


class Codes:
    """Questions as tuples (trait, number, ..), the places under numbers; equal questions have equal codes.

    Only the rules of the packages with the given names count. If it renames, each code is that of a renamed form.
    """

    def __init__(self, house, names, renames):
        self._house = house
        self._names = names
        self._renames = renames
        self.store = Store()
        self._by_trait = {}
        self._by_sign = {}
        self._marks = {}
        self._right = {}

    def form(self, code):
        """The code of the renamed form, if this renames; otherwise the code itself."""
        if not self._renames or self.store.are_ground(code[1:]):
            return code
        return (code[0], *self.store.renamed(code[1:]))

    def code_of(self, question):
        """The code of a question."""
        return self.form((question[0], *[self.store.number_of(place) for place in question[1:]]))

    def _is_right(self, thing):
        """Whether any value is a word."""
        if not isinstance(thing, str):
            return False
        if thing not in self._right:
            self._right[thing] = is_word(thing)
        return self._right[thing]

    def code_in(self, thing):
        """The code of any value that is a question, its terms of any size, as it is; None for any other value."""
        if not isinstance(thing, tuple) or not 2 <= len(thing) <= 1 + MOST_PLACES or not self._is_right(thing[0]):
            return None
        numbers = [self.store.number_in(place) for place in thing[1:]]
        return None if None in numbers else (thing[0], *numbers)

    def question_of(self, code):
        """The question with a code."""
        return (code[0], *[self.store.term(number) for number in code[1:]])

    def heads(self, code):
        """The list of the trait of a question and of its heads, None for a bare place."""
        return [code[0], *[self.store.word_at(number) for number in code[1:]]]

    def is_ground(self, code):
        """Whether a question contains no variable."""
        return self.store.are_ground(code[1:])

    def is_shallow(self, code):
        """Whether a question may be compared as it is."""
        return self.store.are_shallow(code[1:])

    def is_mark(self, code):
        """Whether the house has the trait of a question as a mark."""
        trait = code[0]
        if trait not in self._marks:
            self._marks[trait] = self._house.sort_of(trait) == "mark"
        return self._marks[trait]

    def rules_of(self, trait):
        """The list of ((package, index), rule) for a trait, in order."""
        if trait not in self._by_trait:
            self._by_trait[trait] = [row for row in self._house.headed(trait) if row[0][0] in self._names]
        return self._by_trait[trait]

    def _candidates(self, code):
        """The list of the rules whose first place may be that of a question."""
        sign = self.store.sign(code[1])
        key = (code[0], sign)
        if key not in self._by_sign:
            self._by_sign[key] = [row for row in self.rules_of(code[0])
                                  if isinstance(row[1].head[1], str) or row[1].head[1][0] == sign]
        return self._by_sign[key]

    def needed(self, rule, code):
        """The tuple of the codes of the filled conditions of a rule for a question's trait; None if it does not fit."""
        fill = self.store.fill_for(rule.places, code[1:])
        if fill is None:
            return None
        return tuple([self.form((condition[0], *[self.store.built(place, fill) for place in condition[1:]]))
                      for condition in rule.conditions])

    def fitting(self, code):
        """The list of (pair, rule, codes of the filled conditions) for the rules that fit a question, in order."""
        found = []
        for pair, rule in self._candidates(code):
            asked = self.needed(rule, code)
            if asked is not None:
                found.append((pair, rule, asked))
        return found

    def named_rule(self, thing, code):
        """The rule for a question's trait that any value names as a pair (package, index), or None."""
        if not isinstance(thing, tuple) or len(thing) != 2 or not isinstance(thing[0], str):
            return None
        name, index = thing
        if name not in self._names or not is_index(index, len(self._house[name].rules)):
            return None
        rule = self._house.rule(name, index)
        return rule if rule.trait == code[0] else None

    def met_only(self, code):
        """The pair of the first rule that meets a question without fitting it, or None."""
        # A rule that meets a question without variables fits it.
        if self.store.are_ground(code[1:]):
            return None
        places = self.question_of(code)[1:]
        for pair, rule in self.rules_of(code[0]):
            if self.store.fill_for(rule.places, code[1:]) is None and have_meet(places, rule.places):
                return pair
        return None
