"""Questions that are reached, and the rules that fit them."""


class Net:
    """Questions under indexes, in the order of their first mention, and for each one the uses of rules that fit it.

    A use is a tuple (pair, rule, asked): the pair of the rule, the rule, and for each of its conditions the index of
    the question that it asks. A question that is not asked further has the reason for this, and no uses.
    """

    def __init__(self, codes):
        self.codes = codes
        self.listed = []
        self.marks = []
        self.ends = []
        self.uses = []
        self._indexes = {}

    def mention(self, code):
        """The index of the question with a code."""
        at = self._indexes.get(code)
        if at is None:
            at = len(self.listed)
            self._indexes[code] = at
            self.listed.append(code)
            self.marks.append(self.codes.is_mark(code))
            self.ends.append(None)
            self.uses.append([])
        return at

    def question_at(self, at):
        """The question with an index."""
        return self.codes.question_of(self.listed[at])

    def grow(self, at):
        """Find the uses of the rules that fit a question."""
        self.use(at, self.codes.fitting(self.listed[at]))

    def use(self, at, fitting):
        """Take these rules, of those that fit a question, as its uses."""
        self.uses[at] = [(pair, rule, tuple([self.mention(code) for code in asked])) for pair, rule, asked in fitting]
