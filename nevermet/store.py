"""Terms of any size under numbers."""

from nevermet.names import is_variable
from nevermet.terms import is_piece, walk

# Terms that are not deeper than this may be compared as they are, since Python's calls can be that deep.
MOST_SHALLOW = 200


class Store:
    """Terms under numbers: equal terms have equal numbers, so they are compared at once, however large they are."""

    def __init__(self):
        self._terms = []
        self._signs = []
        self._parts = []
        self._ground = []
        self._depths = []
        self._numbers = {}
        self._right = {}

    def _added(self, sign, parts, term):
        """The number of a term that has none yet, with its variable or word and the numbers of its parts."""
        number = len(self._terms)
        ground = not isinstance(term, str)
        # A name such as V1000 in a renamed form stands in no paper, so it is never compared as it is.
        deep = 0 if ground or is_variable(sign) else MOST_SHALLOW
        for part in parts:
            ground = ground and self._ground[part]
            deep = max(deep, self._depths[part])
        self._numbers[(sign, parts)] = number
        self._terms.append(term)
        self._signs.append(sign)
        self._parts.append(parts)
        self._ground.append(ground)
        self._depths.append(deep + 1)
        return number

    def _number(self, word, parts):
        """The number of the term with this word, and with parts that have these numbers."""
        number = self._numbers.get((word, parts))
        if number is None:
            number = self._added(word, parts, (word, *[self._terms[part] for part in parts]))
        return number

    def number_of(self, term):
        """The number of a term of any size."""
        return self._number_walked(walk((term,)))

    def _number_walked(self, found):
        """The number of a term, all pieces of which are given, each before its parts, from left to right."""
        held = []
        for piece in found[::-1]:
            sign, parts = piece, ()
            if isinstance(piece, tuple):
                sign = piece[0]
                many = len(piece) - 1
                if many:
                    parts = tuple(held[:-many - 1:-1])
                    del held[-many:]
            number = self._numbers.get((sign, parts))
            held.append(self._added(sign, parts, piece) if number is None else number)
        return held[0]

    def _is_right_piece(self, thing):
        """Whether any value can stand in a term, whatever its parts are."""
        if isinstance(thing, tuple) and 1 <= len(thing) <= 4 and isinstance(thing[0], str):
            sign = thing[0]
            if sign not in self._right:
                self._right[sign] = is_piece((sign,), False)
            return self._right[sign]
        return is_variable(thing)

    def number_in(self, thing):
        """The number of any value that is a term of any size; None for any other value."""
        found = []
        waiting = [thing]
        while waiting:
            one = waiting.pop()
            if not self._is_right_piece(one):
                return None
            found.append(one)
            if isinstance(one, tuple):
                waiting.extend(one[:0:-1])
        return self._number_walked(found)

    def term(self, number):
        """The term with a number."""
        return self._terms[number]

    def sign(self, number):
        """The variable or the word of the term with a number."""
        return self._signs[number]

    def parts(self, number):
        """The tuple of the numbers of the parts of the term with a number."""
        return self._parts[number]

    def is_bare(self, number):
        """Whether the term with a number is a variable."""
        return isinstance(self._terms[number], str)

    def word_at(self, number):
        """The word of the term with a number, None for a variable."""
        return None if isinstance(self._terms[number], str) else self._signs[number]

    def are_ground(self, numbers):
        """Whether the terms with these numbers contain no variable."""
        return all([self._ground[number] for number in numbers])

    def are_shallow(self, numbers):
        """Whether the terms with these numbers may be compared as they are."""
        return all([self._depths[number] <= MOST_SHALLOW for number in numbers])

    def _with_variables(self, numbers):
        """The dict of the numbers of the pieces that contain variables, in the order of their first occurrence."""
        found = {}
        waiting = list(numbers[::-1])
        while waiting:
            number = waiting.pop()
            if number not in found and not self._ground[number]:
                found[number] = True
                waiting.extend(self._parts[number][::-1])
        return found

    def renamed(self, numbers):
        """The tuple of the numbers of the renamed form of the terms with these numbers."""
        found = self._with_variables(numbers)
        new = {}
        for number in found:
            if not self._parts[number]:
                new[number] = self.number_of(f"V{len(new)}")
        # Parts have lesser numbers than what they are parts of.
        for number in sorted(found):
            if number not in new:
                parts = tuple([new.get(part, part) for part in self._parts[number]])
                new[number] = self._number(self._signs[number], parts)
        return tuple([new.get(number, number) for number in numbers])

    def built(self, term, fill):
        """The number of a term of a rule, filled by a dict from its variables to numbers."""
        if isinstance(term, str):
            return fill[term]
        return self._number(term[0], tuple([self.built(part, fill) for part in term[1:]]))

    def _fits(self, one, number, fill):
        """Whether a term of a rule can be the term with a number; the fill takes what its variables are then."""
        if isinstance(one, str):
            return fill.setdefault(one, number) == number
        parts = self._parts[number]
        if one[0] != self._signs[number] or len(one) != 1 + len(parts):
            return False
        # Terms of rules are not deep.
        for at, part in enumerate(parts):
            if not self._fits(one[at + 1], part, fill):
                return False
        return True

    def fill_for(self, ones, numbers):
        """The dict from variables to numbers that makes some terms those with the given numbers, or None."""
        if len(ones) != len(numbers):
            return None
        fill = {}
        for one, number in zip(ones, numbers):
            if not self._fits(one, number, fill):
                return None
        return fill
