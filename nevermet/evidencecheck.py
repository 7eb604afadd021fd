"""The check of evidence that anybody wrote."""

from nevermet.codes import Codes
from nevermet.papers import Paper, are_mentions, is_round


def is_right(paper, at):
    """Whether an entry of any value is a right entry of evidence."""
    entry = paper.entries[at]
    code = paper.code(at)
    if code is None or len(entry) != 4 or not paper.codes.is_ground(code):
        return False
    _, count, pair, numbers = entry
    mark = paper.codes.is_mark(code)
    rule = paper.codes.named_rule(pair, code)
    if rule is None or not is_round(count, mark):
        return False
    needed = paper.codes.needed(rule, code)
    return needed is not None and are_mentions(paper, numbers, needed, None if mark else count)


def check_evidence(house, question, thing):
    """Return True if any value is sound evidence for a ground question; otherwise raise BadPaper."""
    codes = Codes(house, house.names, False)
    paper = Paper(codes, thing)
    asked = codes.code_of(question)
    for at in range(len(thing)):
        paper.need(at, is_right(paper, at), asked)
    return True
