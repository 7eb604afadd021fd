"""The check of refutations that anybody wrote."""

from nevermet.codes import Codes
from nevermet.noes import are_reasons
from nevermet.papers import Paper, is_round


def is_right(paper, at):
    """Whether an entry of any value is a right entry of a refutation."""
    entry = paper.entries[at]
    code = paper.code(at)
    if code is None or len(entry) != 3 or not paper.codes.is_ground(code):
        return False
    _, count, reasons = entry
    mark = paper.codes.is_mark(code)
    return is_round(count, not mark) and are_reasons(paper, reasons, code, count if mark else None)


def check_refutation(house, question, thing):
    """Return True if any value is a sound refutation of a ground question; otherwise raise BadPaper."""
    codes = Codes(house, house.names, False)
    paper = Paper(codes, thing)
    asked = codes.code_of(question)
    for at in range(len(thing)):
        paper.need(at, is_right(paper, at), asked)
    return True
