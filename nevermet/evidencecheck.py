"""The check of evidence that anybody wrote."""

from nevermet.errors import BadPaper
from nevermet.kinds import is_index
from nevermet.papers import has_less, is_asked, is_mention, is_round, need_paper
from nevermet.terms import variables_in


def rule_named(house, thing):
    """The rule that any value names as a pair, or None."""
    if not isinstance(thing, tuple) or len(thing) != 2 or thing[0] not in house:
        return None
    name, index = thing
    return house.rule(name, index) if is_index(index, len(house[name].rules)) else None


def is_right(house, paper, entry):
    """Whether any value is a right entry of evidence."""
    if not isinstance(entry, tuple) or len(entry) != 4:
        return False
    question, count, pair, numbers = entry
    if not is_asked(question) or variables_in(question[1:]):
        return False
    mark = house.sort_of(question[0]) == "mark"
    rule = rule_named(house, pair)
    if rule is None or not is_round(count, mark):
        return False
    conditions = rule.conditions_for(question)
    if conditions is None or not isinstance(numbers, tuple) or len(numbers) != len(conditions):
        return False
    for number, condition in zip(numbers, conditions):
        if not is_mention(paper, number, condition):
            return False
        if not mark and house.sort_of(condition[0]) != "mark" and not has_less(paper[number], count):
            return False
    return True


def check_evidence(house, question, thing):
    """Return True if any value is sound evidence for a ground question; otherwise raise BadPaper."""
    if not isinstance(thing, tuple) or not thing:
        raise BadPaper(0)
    need_paper(thing, question, [is_right(house, thing, entry) for entry in thing])
    return True
