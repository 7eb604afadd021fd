"""What is resolved for a package with wants, and by which rules."""

from nevermet.codes import Codes
from nevermet.known import function_named
from nevermet.nets import Net
from nevermet.rules import beneath
from nevermet.shut import is_shut
from nevermet.terms import filled
from nevermet.unify import have_meet
from nevermet.verdicts import mark_rounds, users_of


class Usable:
    """The rules in the view of a package that can be used for questions, whose variables are fixed."""

    def __init__(self, house, name):
        self._house = house
        self._name = name
        self.codes = Codes(house, house.view(name), False)

    def _is_firm(self, rule, question):
        """Whether a soft rule that fits a question is firm for it."""
        if not is_shut(self._house, self._name, question):
            return False
        lower = [other for _, other in self.codes.rules_of(rule.trait) if beneath(other, rule)]
        return not any([have_meet(other.places, question[1:]) for other in lower])

    def can_use(self, rule, code):
        """Whether a rule that fits a question can be used for it."""
        return not rule.soft or self._is_firm(rule, self.codes.question_of(code))

    def fitting(self, code):
        """The list of (pair, rule, codes of the filled conditions) for the rules that can be used, in order."""
        return [row for row in self.codes.fitting(code) if self.can_use(row[1], code)]


def wants_by_code(codes, wants):
    """The dict from the codes of wants to the index of the first want that is equal."""
    found = {}
    for index, want in enumerate(wants):
        found.setdefault(codes.code_of(want), index)
    return found


def least_rounds(net):
    """The dict of the least rounds of the questions of a net that are resolved."""
    users = users_of(net)
    refuted = mark_rounds(net, users)
    rounds = {}
    lacking = {}
    fresh = [at for at, end in enumerate(net.ends) if end is not None or (net.marks[at] and refuted[at] is None)]
    later = [at for at, uses in enumerate(net.uses) if not net.marks[at] and any([not asked for _, _, asked in uses])]
    count = 0
    while fresh or later:
        for at in fresh:
            rounds[at] = count
        # All conditions of these have lesser rounds than the next count, and one of them has the greatest such round.
        for at in fresh:
            for user in users[at]:
                one, place = user
                lacking[user] = lacking.get(user, len(net.uses[one][place][2])) - 1
                if lacking[user] == 0 and not net.marks[one]:
                    later.append(one)
        fresh = [at for at in list({number: True for number in later}) if at not in rounds]
        later = []
        count += 1
    return rounds


def wanting_net(house, name, questions, wants):
    """The net of what is reached from a list of questions, where wants end; and the list of their indexes in it."""
    usable = Usable(house, name)
    wanted = wants_by_code(usable.codes, wants)
    net = Net(usable.codes)
    starts = [net.mention(usable.codes.code_of(question)) for question in questions]
    at = 0
    while at < len(net.listed):
        code = net.listed[at]
        if code in wanted:
            net.ends[at] = ("want", wanted[code])
        else:
            net.use(at, usable.fitting(code))
        at += 1
    return net, starts


def step_questions(house, step):
    """The list of the questions that must be resolved so that a step is."""
    if step[0] == "ask":
        return [step[1]]
    function = function_named(house, step[1])
    fill = dict(zip(function.variables, step[2:]))
    return [filled(want, fill) for want in function.wants]


def step_net(house, name, function):
    """As `wanting_net`, for the questions of all steps of a function; the indexes are in a list for each step."""
    asked = [step_questions(house, step) for step in function.body]
    net, numbers = wanting_net(house, name, [question for questions in asked for question in questions], function.wants)
    starts = []
    for questions in asked:
        starts.append(numbers[:len(questions)])
        numbers = numbers[len(questions):]
    return net, starts


def first_use(net, rounds, at):
    """The use of the rule that resolves a question that is resolved, but no want."""
    for use in net.uses[at]:
        if all([number in rounds for number in use[2]]):
            if net.marks[at] or rounds[at] == 1 + max([rounds[number] for number in use[2]], default=0):
                return use
    return None


def resolving_uses(net, rounds):
    """The dict of the uses of the rules that resolve the questions that are resolved, wants left out."""
    return {at: first_use(net, rounds, at) for at in rounds if net.ends[at] is None}
