"""Questions that no rule outside the view of a package can ever answer, as they stand in a sound lasting table."""

from nevermet.known import SORTS, TRAITS, is_declared
from nevermet.shut import is_shut_by


class Guards:
    """What is wanted of each question of a lasting table; each term is looked at once."""

    def __init__(self, house, name, codes):
        self._house = house
        self._name = name
        self._names = house.view(name)
        self._codes = codes
        self._known = []
        self._traits = {}

    def _knows_term(self, number):
        """Whether the view has the words of the term with a number, as sorts with their numbers of parts."""
        store = self._codes.store
        # Parts have lesser numbers than what they are parts of.
        for at in range(len(self._known), number + 1):
            parts = store.parts(at)
            right = store.is_bare(at) or is_declared(self._house, self._names, store.sign(at), SORTS, len(parts))
            self._known.append(right and all([self._known[part] for part in parts]))
        return self._known[number]

    def _knows_trait(self, trait, many):
        """Whether the view has a word as a trait with so many places."""
        if (trait, many) not in self._traits:
            self._traits[(trait, many)] = is_declared(self._house, self._names, trait, TRAITS, many)
        return self._traits[(trait, many)]

    def is_guarded(self, code):
        """Whether a question is renamed, in words of the view, shut, and met by no rule that does not fit it."""
        if not self._knows_trait(code[0], len(code) - 1) or not all([self._knows_term(one) for one in code[1:]]):
            return False
        if self._codes.form(code) != code or not is_shut_by(self._house, self._name, self._codes.heads(code)):
            return False
        return self._codes.met_only(code) is None
