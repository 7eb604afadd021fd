"""The reading of texts."""

from nevermet.errors import InvalidText
from nevermet.lines import function_in, rule_in
from nevermet.packages import Package
from nevermet.parsing import spelled_whole
from nevermet.terms import is_question, is_term


def read_term(text):
    """The term that a text writes."""
    term = spelled_whole(text) if isinstance(text, str) else None
    if not is_term(term):
        raise InvalidText(0)
    return term


def read_question(text):
    """The question that a text writes."""
    question = spelled_whole(text) if isinstance(text, str) else None
    if not is_question(question):
        raise InvalidText(0)
    return question


def read_rule(text):
    """The rule that a line of a package writes."""
    rule = rule_in(text) if isinstance(text, str) else None
    if rule is None:
        raise InvalidText(0)
    return rule


def read_function(text):
    """The function that a line of a package writes."""
    function = function_in(text) if isinstance(text, str) else None
    if function is None:
        raise InvalidText(0)
    return function


def read_package(text):
    """The package that a text writes."""
    return Package.read(text)
