"""The check of lasting tables that anybody wrote."""

from nevermet.codes import Codes
from nevermet.guards import Guards
from nevermet.noes import are_reasons
from nevermet.papers import Paper, is_round


def is_right(guards, paper, at):
    """Whether an entry of any value is a right entry of a lasting table."""
    entry = paper.entries[at]
    code = paper.code(at)
    if code is None or len(entry) != 3:
        return False
    _, count, reasons = entry
    mark = paper.codes.is_mark(code)
    if not is_round(count, not mark) or not guards.is_guarded(code):
        return False
    return are_reasons(paper, reasons, code, count if mark else None)


def check_table(house, name, question, thing):
    """Return True if any value is a sound lasting table for a question; otherwise raise BadPaper."""
    codes = Codes(house, house.view(name), True)
    guards = Guards(house, name, codes)
    paper = Paper(codes, thing)
    asked = codes.code_of(question)
    for at in range(len(thing)):
        paper.need(at, is_right(guards, paper, at), asked)
    return True
