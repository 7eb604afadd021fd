"""The check of refutations that anybody wrote."""

from nevermet.errors import BadPaper
from nevermet.nets import rules_by_word
from nevermet.noes import are_reasons
from nevermet.papers import is_asked, is_round, need_paper
from nevermet.terms import variables_in


def is_right(house, ruled, paper, entry):
    """Whether any value is a right entry of a refutation."""
    if not isinstance(entry, tuple) or len(entry) != 3:
        return False
    question, count, reasons = entry
    if not is_asked(question) or variables_in(question[1:]):
        return False
    mark = house.sort_of(question[0]) == "mark"
    if not is_round(count, not mark):
        return False
    return are_reasons(paper, reasons, question, ruled.get(question[0], ()), count if mark else None)


def check_refutation(house, question, thing):
    """Return True if any value is a sound refutation of a ground question; otherwise raise BadPaper."""
    if not isinstance(thing, tuple) or not thing:
        raise BadPaper(0)
    ruled = rules_by_word(house, house.names)
    need_paper(thing, question, [is_right(house, ruled, thing, entry) for entry in thing])
    return True
