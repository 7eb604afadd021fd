"""Questions that are reached, and the rules that fit them."""

from nevermet.store import Store
from nevermet.unify import have_meet


def rules_by_word(house, names):
    """The dict from the words of heads to the lists of ((package, index), rule) of these packages, in order."""
    found = {}
    for name in names:
        for index, rule in enumerate(house[name].rules):
            if rule.trait not in found:
                found[rule.trait] = []
            found[rule.trait].append(((name, index), rule))
    return found


class Net:
    """Questions under numbers, in the order of their first mention, and for each one the uses of rules that fit it.

    A use is a tuple (pair, rule, asked): the pair of the rule, the rule, and for each of its conditions the number of
    the question that it asks. A question that is exposed has the reason for this, and no uses. All questions are in
    their renamed forms; only the rules of the packages with the given names count.
    """

    def __init__(self, house, names):
        self.questions = []
        self.marks = []
        self.exposed = []
        self.uses = []
        self._house = house
        self._ruled = rules_by_word(house, names)
        self._store = Store()
        self._codes = []
        self._numbers = {}

    def _numbered(self, trait, numbers):
        """The number of the renamed form of the question with this trait and with terms that have these numbers."""
        code = (trait, *numbers)
        if code not in self._numbers:
            form = (trait, *self._store.renamed(numbers))
            if form not in self._numbers:
                self._numbers[form] = len(self._codes)
                self._codes.append(form)
                self.questions.append((trait, *[self._store.term(number) for number in form[1:]]))
                self.marks.append(self._house.sort_of(trait) == "mark")
                self.exposed.append(None)
                self.uses.append([])
            self._numbers[code] = self._numbers[form]
        return self._numbers[code]

    def mention(self, question):
        """The number of the renamed form of a question."""
        return self._numbered(question[0], [self._store.number_of(place) for place in question[1:]])

    def _asked(self, condition, fill):
        """The number of the renamed form of a condition, filled."""
        return self._numbered(condition[0], [self._store.built(place, fill) for place in condition[1:]])

    def grow(self, at):
        """Find the uses of the rules that fit a question."""
        word, *numbers = self._codes[at]
        for pair, rule in self._ruled.get(word, ()):
            fill = self._store.fill_for(rule.places, numbers)
            if fill is not None:
                asked = tuple([self._asked(condition, fill) for condition in rule.conditions])
                self.uses[at].append((pair, rule, asked))

    def met_only(self, at):
        """The pair of the first rule that meets a question without fitting it, or None."""
        word, *numbers = self._codes[at]
        # A rule that meets a question without variables fits it.
        if self._store.are_ground(numbers):
            return None
        for pair, rule in self._ruled.get(word, ()):
            if self._store.fill_for(rule.places, numbers) is None:
                if have_meet(self.questions[at][1:], rule.places):
                    return pair
        return None
