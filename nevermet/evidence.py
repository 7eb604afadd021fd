"""Evidence, and rounds."""

from nevermet.errors import NoAnswer
from nevermet.papers import by_mention
from nevermet.reach import explored
from nevermet.verdicts import answers_of, held_rounds, settled


def entries_of(net, answers, rounds):
    """The tuple of the entries for the first question of a net, from the answers and the rounds of what it needs."""
    indexes = by_mention({at: answers[at][2] for at in answers})
    return tuple([(net.question_at(at), rounds[at], answers[at][0], tuple([indexes[one] for one in answers[at][2]]))
                  for at in indexes])


def evidence(house, question, *, by=None):
    """The evidence for a ground question."""
    net = explored(house, question, by)
    held, _ = settled(net)
    if 0 not in held:
        raise NoAnswer(question)
    answers = answers_of(net, held)
    return entries_of(net, answers, held_rounds(net, answers))


def round_of(house, question):
    """The round of a ground question that holds, or of one that is refuted."""
    net = explored(house, question, None)
    held, rounds = settled(net)
    return held_rounds(net, answers_of(net, held))[0] if 0 in held else rounds[0]
