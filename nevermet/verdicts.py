"""Which questions of a net are refuted, and which hold, with their answers and rounds.

Of lasting questions the same is asked: one that lasts counts as refuted, and one that is exposed as one that holds. Of
questions that are resolved, too: these count as ones that hold, also where they are wants.
"""

from nevermet.rules import beneath


def users_of(net):
    """For each question the list of (question, place of a use), one for each condition that asks it."""
    users = [[] for _ in net.uses]
    for at, uses in enumerate(net.uses):
        for place, (_, _, asked) in enumerate(uses):
            for number in asked:
                users[number].append((at, place))
    return users


def mark_rounds(net, users):
    """For each question of a mark that is refuted its round; None for the others."""
    rounds = [None for _ in net.marks]
    fresh = [at for at, mark in enumerate(net.marks) if mark and net.ends[at] is None and not net.uses[at]]
    left = [len(uses) for uses in net.uses] if fresh else []
    stopped = {}
    count = 1
    while fresh:
        later = []
        for at in fresh:
            rounds[at] = count
            for user in users[at]:
                # A rule that has several refuted conditions is stopped by the first one.
                if user not in stopped:
                    stopped[user] = True
                    left[user[0]] -= 1
                    if left[user[0]] == 0 and net.marks[user[0]]:
                        later.append(user[0])
        fresh = later
        count += 1
    return rounds


def beginners(net, rounds):
    """The list of the questions that hold, whatever other plain questions do."""
    found = []
    for at, uses in enumerate(net.uses):
        if net.marks[at]:
            if rounds[at] is None:
                found.append(at)
        elif net.ends[at] is not None or any([not asked for _, _, asked in uses]):
            found.append(at)
    return found


def held_questions(net, users, rounds):
    """The dict of the questions that hold; a plain one stands behind all conditions of some rule that answers it."""
    held = {}
    lacking = {}
    waiting = beginners(net, rounds)
    next_at = 0
    while next_at < len(waiting):
        at = waiting[next_at]
        next_at += 1
        if at not in held:
            held[at] = True
            for user in users[at]:
                one, place = user
                lacking[user] = lacking.get(user, len(net.uses[one][place][2])) - 1
                if lacking[user] == 0 and not net.marks[one]:
                    waiting.append(one)
    return held


def settled(net):
    """The dict of the questions that hold, and the list of the rounds of the refuted ones, None for the others."""
    users = users_of(net)
    rounds = mark_rounds(net, users)
    held = held_questions(net, users, rounds)
    return held, [None if at in held else count or 0 for at, count in enumerate(rounds)]


def answering(net, held, at):
    """The list of the uses of the rules that answer a question."""
    return [use for use in net.uses[at] if all([number in held for number in use[2]])]


def lowest(uses):
    """The use of the rule that is beneath the rules of all other uses."""
    found = uses[0]
    for use in uses[1:]:
        if beneath(use[1], found[1]):
            found = use
    return found


def answer(net, held, at):
    """The use of the answer to a question that holds."""
    uses = answering(net, held, at)
    return uses[0] if net.marks[at] else lowest(uses)


def answers_of(net, held):
    """The dict of the uses of the answers to all questions that hold."""
    return {at: answer(net, held, at) for at in held}


def held_rounds(net, answers):
    """The dict of the rounds of the questions that hold, from their answers."""
    rounds = {}
    for at in answers:
        if net.marks[at]:
            rounds[at] = 0
        else:
            # The conditions of the answer are conditions of each rule above it, so they stand before this question.
            rounds[at] = 1 + max([rounds[number] for number in answers[at][2]], default=0)
    return rounds
