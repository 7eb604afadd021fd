"""Terms of any size under numbers."""

from nevermet.terms import coded


class Store:
    """Terms under numbers: equal terms have equal numbers, so they are compared at once, however large they are."""

    def __init__(self):
        self._terms = []
        self._parts = []
        self._ground = []
        self._numbers = {}

    def _number(self, sign, parts, bare):
        """The number of the term with this variable or word, and with the parts that have these numbers."""
        key = (sign, parts)
        if key not in self._numbers:
            self._numbers[key] = len(self._terms)
            self._terms.append(sign if bare else (sign, *[self._terms[part] for part in parts]))
            self._parts.append(parts)
            self._ground.append(not bare and all([self._ground[part] for part in parts]))
        return self._numbers[key]

    def number_of(self, term):
        """The number of a term of any size."""
        nodes, roots = coded((term,))
        numbers = []
        for piece, parts in nodes:
            bare = isinstance(piece, str)
            held = tuple([numbers[part] for part in parts])
            numbers.append(self._number(piece if bare else piece[0], held, bare))
        return numbers[roots[0]]

    def term(self, number):
        """The term with a number."""
        return self._terms[number]

    def are_ground(self, numbers):
        """Whether the terms with these numbers contain no variable."""
        return all([self._ground[number] for number in numbers])

    def _with_variables(self, numbers):
        """The dict of the numbers of the pieces that contain variables, in the order of their first occurrence."""
        found = {}
        waiting = list(numbers[::-1])
        while waiting:
            number = waiting.pop()
            if number not in found and not self._ground[number]:
                found[number] = True
                waiting.extend(self._parts[number][::-1])
        return found

    def renamed(self, numbers):
        """The tuple of the numbers of the renamed form of the terms with these numbers."""
        found = self._with_variables(numbers)
        bare = [number for number in found if not self._parts[number]]
        new = {number: self._number(f"V{at}", (), True) for at, number in enumerate(bare)}
        # Parts have lesser numbers than what they are parts of.
        for number in sorted(found):
            if number not in new:
                parts = tuple([new.get(part, part) for part in self._parts[number]])
                new[number] = self._number(self._terms[number][0], parts, False)
        return tuple([new.get(number, number) for number in numbers])

    def built(self, term, fill):
        """The number of a term of a rule, filled by a dict from its variables to numbers."""
        if isinstance(term, str):
            return fill[term]
        return self._number(term[0], tuple([self.built(part, fill) for part in term[1:]]), False)

    def fill_for(self, ones, numbers):
        """The dict from variables to numbers that makes some terms those with the given numbers, or None."""
        if len(ones) != len(numbers):
            return None
        fill = {}
        waiting = list(zip(ones, numbers))
        while waiting:
            one, number = waiting.pop()
            term = self._terms[number]
            if isinstance(one, str):
                if one not in fill:
                    fill[one] = number
                elif fill[one] != number:
                    return None
            elif isinstance(term, str) or one[0] != term[0] or len(one) != len(term):
                return None
            else:
                waiting.extend(list(zip(one[1:], self._parts[number])))
        return fill
