"""The papers of noes, which are refutations and lasting tables, and what their checks look at."""

from nevermet.kinds import is_index, is_integer
from nevermet.papers import by_mention


def reason_of(net, rounds, at, use):
    """The reason against a rule that fits a refuted question: (package, index, condition, number in the net)."""
    pair, _, asked = use
    refuted = [condition for condition, number in enumerate(asked) if rounds[number] is not None]
    least = min([rounds[asked[condition]] for condition in refuted])
    first = [condition for condition in refuted if not net.marks[at] or rounds[asked[condition]] == least][0]
    return (*pair, first, asked[first])


def no_paper(net, rounds):
    """The tuple of the entries for the first question of a net, which is refuted, and for what it needs."""
    refuted = [at for at, count in enumerate(rounds) if count is not None]
    reasons = {at: [reason_of(net, rounds, at, use) for use in net.uses[at]] for at in refuted}
    indexes = by_mention({at: [reason[3] for reason in reasons[at]] for at in refuted})
    return tuple([(net.question_at(at), rounds[at],
                   tuple([(*reason[:3], indexes[reason[3]]) for reason in reasons[at]])) for at in indexes])


def is_reason(paper, thing, pair, asked, lesser):
    """Whether any value is a right reason against the rule with this pair, whose filled conditions have these codes.

    Lesser is the round below which the mentioned entry must be, or None.
    """
    if not isinstance(thing, tuple) or len(thing) != 4:
        return False
    name, index, condition, number = thing
    if not is_integer(index) or (name, index) != pair or not is_index(condition, len(asked)):
        return False
    if not paper.mentions(number, asked[condition]):
        return False
    return lesser is None or paper.has_less(number, lesser)


def are_reasons(paper, things, code, lesser):
    """Whether any value has a right reason against each rule that fits the question with this code, in order."""
    fitting = paper.codes.fitting(code)
    if not isinstance(things, tuple) or len(things) != len(fitting):
        return False
    return all([is_reason(paper, thing, pair, asked, lesser) for thing, (pair, _, asked) in zip(things, fitting)])
