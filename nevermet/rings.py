"""Rings of questions of marks."""

from nevermet.errors import NoAnswer
from nevermet.reach import explored
from nevermet.terms import walk
from nevermet.verdicts import answers_of, settled


def order_of(question):
    """The flat list of the words of a ground question; such lists are ordered as the questions are, however deep."""
    # A word has the same number of parts everywhere, so the first unlike words decide.
    return [piece[0] for piece in walk((question,))]


def first_order(ring):
    """As `order_of`, for a tuple of questions that is compared with tuples of other questions."""
    return order_of(ring[0])


def led_to(leads, at):
    """The dict of the questions to which a question leads, in one step or more."""
    found = {}
    waiting = list(leads[at])
    while waiting:
        one = waiting.pop()
        if one not in found:
            found[one] = True
            waiting.extend(leads[one])
    return found


def rings(house, question):
    """The ascending tuple of the classes of questions that lead to each other, each an ascending tuple."""
    net = explored(house, question, None)
    held, _ = settled(net)
    if 0 not in held:
        raise NoAnswer(question)
    answers = answers_of(net, held)
    leads = {at: answers[at][2] for at in held}
    led = {at: led_to(leads, at) for at in [0, *led_to(leads, 0)]}
    classes = []
    for at in led:
        ring = [other for other in led if other in led[at] and at in led[other]]
        if ring and ring[0] == at:
            classes.append(tuple(sorted([net.question_at(other) for other in ring], key=order_of)))
    return tuple(sorted(classes, key=first_order))
