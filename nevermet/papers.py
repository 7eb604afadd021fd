"""Papers: the order of their entries, and what all checks of papers look at."""

from nevermet.errors import BadPaper
from nevermet.kinds import is_index, is_integer
from nevermet.names import is_word
from nevermet.terms import MOST_PLACES, is_piece, same
from nevermet.texts import term_text


def by_mention(mentions):
    """The dict from numbers to the indexes of their entries, in the order of their first mention, from 0 on.

    The mentions are a dict from each number to the numbers that its entry mentions, in order.
    """
    indexes = {0: 0}
    order = [0]
    at = 0
    while at < len(order):
        for number in mentions[order[at]]:
            if number not in indexes:
                indexes[number] = len(order)
                order.append(number)
        at += 1
    return indexes


def is_asked(thing):
    """Whether any value is a question, its terms of any size."""
    if not isinstance(thing, tuple) or not 2 <= len(thing) <= 1 + MOST_PLACES or not is_word(thing[0]):
        return False
    waiting = list(thing[1:])
    while waiting:
        one = waiting.pop()
        if not is_piece(one, False):
            return False
        if isinstance(one, tuple):
            waiting.extend(one[1:])
    return True


def is_round(thing, zero):
    """Whether any value is a round that is 0 exactly if this is wanted."""
    return is_integer(thing) and thing >= 0 and (thing == 0) == zero


def has_less(entry, count):
    """Whether a mentioned entry, a tuple, has a round that is less."""
    return len(entry) > 1 and is_integer(entry[1]) and 0 <= entry[1] < count


def is_mention(paper, number, question):
    """Whether any value is the index of the entry with a question."""
    if not is_index(number, len(paper)) or not isinstance(paper[number], tuple) or not paper[number]:
        return False
    return same(paper[number][0], question)


def need_paper(paper, question, rights):
    """Raise BadPaper unless all entries of a paper are right, have different questions and begin with this one."""
    earlier = {}
    for at, right in enumerate(rights):
        if not right or (at == 0 and not same(paper[0][0], question)):
            raise BadPaper(at)
        text = term_text(paper[at][0])
        if text in earlier:
            raise BadPaper(at)
        earlier[text] = True
