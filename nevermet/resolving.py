"""Questions and steps that are resolved, and the check of the papers of resolved questions."""

from nevermet.errors import NoAnswer, TooMany
from nevermet.kinds import is_index
from nevermet.papers import Paper, are_mentions, by_mention, is_round
from nevermet.resolutions import Usable, least_rounds, resolving_uses, step_net, wanting_net

MOST_ENTRIES = 100


def reason_at(net, uses, indexes, at):
    """The reason of the entry for a question that is resolved."""
    if at not in uses:
        return net.ends[at]
    pair, _, asked = uses[at]
    return ("rule", *pair, tuple([indexes[number] for number in asked]))


def resolve(house, name, question, wants):
    """The paper of a question that is resolved for a package with wants."""
    net, _ = wanting_net(house, name, [question], wants)
    rounds = least_rounds(net)
    if 0 not in rounds:
        raise NoAnswer(question)
    uses = resolving_uses(net, rounds)
    indexes = by_mention({at: uses[at][2] if at in uses else () for at in rounds})
    if len(indexes) > MOST_ENTRIES:
        raise TooMany(MOST_ENTRIES)
    return tuple([(net.question_at(at), rounds[at], reason_at(net, uses, indexes, at)) for at in indexes])


def is_want(thing, wants, code):
    """Whether any value is the reason of an entry that a want resolves; wants are the list of their codes."""
    if not isinstance(thing, tuple) or len(thing) != 2 or thing[0] != "want":
        return False
    return is_index(thing[1], len(wants)) and wants[thing[1]] == code


def is_rule(usable, paper, thing, code, count):
    """Whether any value is the reason of an entry that a rule resolves; the count is its round, None for a mark."""
    if not isinstance(thing, tuple) or len(thing) != 4 or thing[0] != "rule":
        return False
    rule = usable.codes.named_rule(thing[1:3], code)
    needed = None if rule is None else usable.codes.needed(rule, code)
    if needed is None or not usable.can_use(rule, code):
        return False
    return are_mentions(paper, thing[3], needed, count)


def is_right(usable, wants, paper, at):
    """Whether an entry of any value is a right entry of the paper of a resolved question."""
    entry = paper.entries[at]
    code = paper.code(at)
    if code is None or len(entry) != 3:
        return False
    _, count, reason = entry
    if is_want(reason, wants, code):
        return is_round(count, True)
    mark = usable.codes.is_mark(code)
    return is_round(count, mark) and is_rule(usable, paper, reason, code, None if mark else count)


def check_resolved(house, name, question, wants, thing):
    """Return True if any value is a right paper of a resolved question; otherwise raise BadPaper."""
    usable = Usable(house, name)
    paper = Paper(usable.codes, thing)
    asked = usable.codes.code_of(question)
    wanted = [usable.codes.code_of(want) for want in wants]
    for at in range(len(thing)):
        paper.need(at, is_right(usable, wanted, paper, at), asked)
    return True


def wrong_steps(house, name):
    """The tuple of the complaints about steps; there must be no other complaints."""
    complaints = []
    for f, function in enumerate(house[name].functions):
        net, starts = step_net(house, name, function)
        rounds = least_rounds(net)
        complaints.extend([("step", f, s) for s, numbers in enumerate(starts)
                           if any([number not in rounds for number in numbers])])
    return tuple(complaints)
