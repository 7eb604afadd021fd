"""Evidence that is put together along resolutions, while a function is run."""

from nevermet.evidence import entries_of
from nevermet.known import function_named
from nevermet.reach import explored
from nevermet.resolutions import least_rounds, resolving_uses, step_net
from nevermet.terms import filled
from nevermet.texts import term_text
from nevermet.verdicts import mark_rounds, users_of


def rounds_along(net, answers):
    """The dict of the rounds of the questions of a net for which there are answers."""
    rounds = {at: 0 for at in answers if net.marks[at]}
    waiting = list(answers)
    while waiting:
        at = waiting[-1]
        lacking = [] if at in rounds else [number for number in answers[at][2] if number not in rounds]
        if lacking:
            # This does not go round, since answers of plain questions go round only through marks.
            waiting.extend(lacking)
        else:
            waiting.pop()
            if at not in rounds:
                rounds[at] = 1 + max([rounds[number] for number in answers[at][2]], default=0)
    return rounds


class Handing:
    """The answers to plain questions that are known without asking the house."""

    def __init__(self, house):
        self._house = house
        self._answers = {}
        self._resolutions = {}

    def hand_on(self, paper):
        """Take the answers of evidence."""
        for question, _, pair, _ in paper:
            self._answers[term_text(question)] = pair

    def _resolution(self, word):
        """The (net, starts of the steps, uses) of the steps of a function."""
        if word not in self._resolutions:
            net, starts = step_net(self._house, self._house.owner_of(word), function_named(self._house, word))
            self._resolutions[word] = (net, starts, resolving_uses(net, least_rounds(net)))
        return self._resolutions[word]

    def hand_along(self, word, at, fill):
        """Take the answers by which a step of a function is resolved, filled."""
        net, starts, uses = self._resolution(word)
        seen = {}
        waiting = list(starts[at])
        while waiting:
            number = waiting.pop()
            # The answers of wants are there already, and those of marks are asked in the house.
            if number not in seen and number in uses and not net.marks[number]:
                seen[number] = True
                pair, _, asked = uses[number]
                self._answers[term_text(filled(net.question_at(number), fill))] = pair
                waiting.extend(asked)

    def _use(self, net, refuted, at):
        """The use of the answer to a question of a net; refuted are the rounds of the refuted questions of marks."""
        if net.marks[at]:
            return [use for use in net.uses[at] if all([refuted[number] is None for number in use[2]])][0]
        pair = self._answers[term_text(net.question_at(at))]
        return [use for use in net.uses[at] if use[0] == pair][0]

    def evidence_for(self, question):
        """The evidence for a question that is resolved, or is asked by a question that is."""
        net = explored(self._house, question, None)
        refuted = mark_rounds(net, users_of(net))
        answers = {}
        waiting = [0]
        while waiting:
            at = waiting.pop()
            if at not in answers:
                answers[at] = self._use(net, refuted, at)
                waiting.extend(answers[at][2])
        return entries_of(net, answers, rounds_along(net, answers))
