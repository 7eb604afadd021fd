"""The check of lasting tables that anybody wrote."""

from nevermet.codes import Codes
from nevermet.known import TRAITS, knows_question
from nevermet.noes import are_reasons
from nevermet.papers import Paper, is_round
from nevermet.shut import is_shut


def is_guarded(house, name, codes, code):
    """Whether a question is renamed, in words of the view, shut, and met by no rule that does not fit it."""
    if codes.form(code) != code:
        return False
    question = codes.question_of(code)
    if not is_shut(house, name, question) or not knows_question(house, house.view(name), question, TRAITS):
        return False
    return codes.met_only(code) is None


def is_right(house, name, paper, at):
    """Whether an entry of any value is a right entry of a lasting table."""
    entry = paper.entries[at]
    code = paper.code(at)
    if code is None or len(entry) != 3:
        return False
    _, count, reasons = entry
    mark = paper.codes.is_mark(code)
    if not is_round(count, not mark) or not is_guarded(house, name, paper.codes, code):
        return False
    return are_reasons(paper, reasons, code, count if mark else None)


def check_table(house, name, question, thing):
    """Return True if any value is a sound lasting table for a question; otherwise raise BadPaper."""
    codes = Codes(house, house.view(name), True)
    paper = Paper(codes, thing)
    asked = codes.code_of(question)
    for at in range(len(thing)):
        paper.need(at, is_right(house, name, paper, at), asked)
    return True
