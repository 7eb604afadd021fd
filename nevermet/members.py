"""Member expressions, settled."""

from nevermet.errors import TooMany, UnknownWord
from nevermet.evidence import evidence
from nevermet.names import is_member_word
from nevermet.terms import filled, size, walk, words
from nevermet.texts import term_text
from nevermet.words import is_member, trait_of

MOST_SETTLED = 200


def need_words(house, expression):
    """Raise UnknownWord with the least word or member word that the house does not declare."""
    for word in words(expression):
        if not (is_member(house, word) if is_member_word(word) else house.sort_of(word) == "sort"):
            raise UnknownWord(word)


def question_in(piece):
    """The question that a member word with its parts asks."""
    return (trait_of(piece[0]), *piece[1:])


def around(frames, term):
    """The whole expression in which a term stands, from the frames around it."""
    for word, settled, waiting in frames[::-1]:
        term = (word, *settled, term, *waiting[::-1])
    return term


class Settling:
    """Replaces member words; each question is asked once."""

    def __init__(self, house):
        self._house = house
        self._answers = {}
        self._sizes = {}

    def _rule(self, question):
        """The rule that is the answer to a question."""
        text = term_text(question)
        if text not in self._answers:
            # The questions that are asked in the member expressions of the answer have entries here, too.
            for asked, _, pair, _ in evidence(self._house, question):
                self._answers[term_text(asked)] = pair
        name, index = self._answers[text]
        return self._house.rule(name, index)

    def _replaced(self, piece):
        """What stands for a member word with its parts, for which there is an answer."""
        question = question_in(piece)
        rule = self._rule(question)
        return filled(rule.members[piece[0].rpartition(".")[2]], rule.fills(question))

    def _size(self, piece):
        """The number of the symbols of the term to which a member word with its parts is settled by itself."""
        waiting = [piece]
        while waiting:
            one = waiting[-1]
            found = walk((self._replaced(one),))
            inner = [part for part in found if is_member_word(part[0])]
            lacking = [part for part in inner if term_text(part) not in self._sizes]
            if lacking:
                # This does not go round, since these questions have lesser rounds.
                waiting.extend(lacking)
            else:
                count = len(found) + sum([self._sizes[term_text(part)] - size(part) for part in inner])
                self._sizes[term_text(waiting.pop())] = count
        return self._sizes[term_text(piece)]

    def replacement(self, piece):
        """What stands for a member word with its parts; raises what is wrong with it."""
        found = self._replaced(piece)
        if self._size(piece) > MOST_SETTLED:
            raise TooMany(MOST_SETTLED)
        return found

    def expressions(self, expression):
        """The list of the expressions after each replacement.

        The frames around a term are (word, parts that are settled, parts that wait, the last one first).
        """
        found = []
        frames = []
        term = expression
        while True:
            while len(term) > 1:
                frames.append((term[0], [], list(term[:1:-1])))
                term = term[1]
            while frames:
                word, settled, waiting = frames[-1]
                settled.append(term)
                if waiting:
                    term = waiting.pop()
                    break
                frames.pop()
                term = (word, *settled)
                if is_member_word(word):
                    term = self.replacement(term)
                    found.append(around(frames, term))
                    break
            else:
                return found


def replaced_one_by_one(house, expression):
    """The list of the expressions after each replacement; raises what is wrong."""
    need_words(house, expression)
    return Settling(house).expressions(expression)


def settle(house, expression):
    """The term to which a member expression without variables is settled."""
    found = replaced_one_by_one(house, expression)
    return found[-1] if found else expression


def settling(house, expression):
    """Yield a member expression after each replacement."""
    found = replaced_one_by_one(house, expression)
    yield from found
