"""Papers: the order of their entries, and what all checks of papers look at."""

from nevermet.errors import BadPaper
from nevermet.kinds import is_index, is_integer


def by_mention(mentions):
    """The dict from numbers to the indexes of their entries, in the order of their first mention, from 0 on.

    The mentions are a dict from each number to the numbers that its entry mentions, in order.
    """
    indexes = {0: 0}
    order = [0]
    at = 0
    while at < len(order):
        for number in mentions[order[at]]:
            if number not in indexes:
                indexes[number] = len(order)
                order.append(number)
        at += 1
    return indexes


def is_round(thing, zero):
    """Whether any value is a round that is 0 exactly if this is wanted."""
    return is_integer(thing) and thing >= 0 and (thing == 0) == zero


class Paper:
    """Any value that may be a paper, and the codes of the questions of its entries."""

    def __init__(self, codes, thing):
        if not isinstance(thing, tuple) or not thing:
            raise BadPaper(0)
        self.codes = codes
        self.entries = thing
        self._found = {}
        self._earlier = {}

    def code(self, at):
        """The code of the question of an entry; None if it has none."""
        if at not in self._found:
            entry = self.entries[at]
            self._found[at] = self.codes.code_in(entry[0]) if isinstance(entry, tuple) and entry else None
        return self._found[at]

    def mentions(self, number, code):
        """Whether any value is the index of the entry whose question has this code."""
        if not is_index(number, len(self.entries)):
            return False
        if number not in self._found and self.codes.is_shallow(code):
            entry = self.entries[number]
            # An entry that is compared so is not walked through again.
            if not isinstance(entry, tuple) or not entry or entry[0] != self.codes.question_of(code):
                return False
            self._found[number] = code
        return self.code(number) == code

    def has_less(self, number, count):
        """Whether the entry with an index, which is mentioned, has a round that is less."""
        entry = self.entries[number]
        return len(entry) > 1 and is_integer(entry[1]) and 0 <= entry[1] < count

    def need(self, at, right, asked):
        """Raise BadPaper unless an entry is right, repeats no question, and has the asked one if it is the first.

        The entries are looked at one after the other.
        """
        code = self.code(at)
        if not right or code in self._earlier or (at == 0 and code != asked):
            raise BadPaper(at)
        self._earlier[code] = True


def are_mentions(paper, things, needed, count):
    """Whether any value has for each needed question, in order, the index of its entry.

    With a count, the round of the entry that mentions them, plain ones must have a lesser round.
    """
    if not isinstance(things, tuple) or len(things) != len(needed):
        return False
    for thing, code in zip(things, needed):
        if not paper.mentions(thing, code):
            return False
        if count is not None and not paper.codes.is_mark(code) and not paper.has_less(thing, count):
            return False
    return True
