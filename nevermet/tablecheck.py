"""The check of lasting tables that anybody wrote."""

from nevermet.errors import BadPaper
from nevermet.known import TRAITS, knows_question
from nevermet.nets import rules_by_word
from nevermet.noes import are_reasons
from nevermet.papers import is_asked, is_round, need_paper
from nevermet.shut import is_shut
from nevermet.terms import renamed_question, same
from nevermet.unify import have_meet


def is_guarded(house, name, question, rules):
    """Whether a question is renamed, in words of the view, shut, and met by no rule that does not fit it."""
    if not same(renamed_question(question), question) or not is_shut(house, name, question):
        return False
    if not knows_question(house, house.view(name), question, TRAITS):
        return False
    others = [rule for _, rule in rules if rule.fills(question) is None]
    return not any([have_meet(question[1:], rule.places) for rule in others])


def is_right(house, name, ruled, paper, entry):
    """Whether any value is a right entry of a lasting table."""
    if not isinstance(entry, tuple) or len(entry) != 3 or not is_asked(entry[0]):
        return False
    question, count, reasons = entry
    mark = house.sort_of(question[0]) == "mark"
    rules = ruled.get(question[0], ())
    if not is_round(count, not mark) or not is_guarded(house, name, question, rules):
        return False
    return are_reasons(paper, reasons, question, rules, count if mark else None)


def check_table(house, name, question, thing):
    """Return True if any value is a sound lasting table for a question; otherwise raise BadPaper."""
    if not isinstance(thing, tuple) or not thing:
        raise BadPaper(0)
    ruled = rules_by_word(house, house.view(name))
    rights = [is_right(house, name, ruled, thing, entry) for entry in thing]
    need_paper(thing, renamed_question(question), rights)
    return True
