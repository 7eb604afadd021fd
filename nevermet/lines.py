"""The lines of the text of a package, each read by itself.

What a line seems to say is written again and compared with it, so that only texts that are written so are right.
"""

from nevermet.errors import InvalidFunction, InvalidRule
from nevermet.functions import Function
from nevermet.parsing import number_in, spelled, spelled_row, symbol_end
from nevermet.rules import Rule, SoftRule
from nevermet.texts import function_text, header_text, rule_text, sort_text, trait_text

RULE = "rule "
SOFT_RULE = "soft rule "
FUNCTION = "function "


def header_in(line):
    """The (name, edition, needs) that the first line of a package writes, or None."""
    parts = line.split(" ")
    if len(parts) < 3 or number_in(parts[2]) is None:
        return None
    needs = tuple(sorted(set(parts[4:])))
    header = (parts[1], number_in(parts[2]), needs)
    return header if header_text(*header) == line else None


def sort_in(line):
    """The sort that a line writes, or None."""
    parts = line.split(" ")
    if len(parts) != 3 or number_in(parts[2]) is None:
        return None
    sort = (parts[1], number_in(parts[2]))
    return sort if sort_text(sort) == line else None


def trait_in(line):
    """The trait or mark that a line writes, or None."""
    parts = line.split(" ")
    if len(parts) < 3 or number_in(parts[2]) is None:
        return None
    trait = (parts[1], number_in(parts[2]), parts[0] == "mark", tuple(parts[4:]))
    return trait if trait_text(trait) == line else None


def spelled_behind(line, at, sign):
    """The list of what is written behind a sign, and where it ends; an empty list if the sign is not there."""
    if line[at:at + len(sign)] != sign:
        return [], at
    return spelled_row(line, at + len(sign))


def members_behind(line, at):
    """The dict of the members that are written from here to the end of a line, or None."""
    members = {}
    sign = " with "
    while at < len(line):
        if line[at:at + len(sign)] != sign:
            return None
        end = symbol_end(line, at + len(sign))
        if line[end:end + 3] != " = ":
            return None
        found = spelled(line, end + 3)
        if found is None:
            return None
        name = line[at + len(sign):end]
        expression, at = found
        members[name] = expression
        sign = ", "
    return members


def rule_in(line):
    """The rule that a line writes, or None."""
    soft = line[:len(SOFT_RULE)] == SOFT_RULE
    found = spelled(line, len(SOFT_RULE) if soft else len(RULE))
    if found is None:
        return None
    head, at = found
    behind = spelled_behind(line, at, " if ")
    if behind is None:
        return None
    conditions, at = behind
    members = members_behind(line, at)
    if members is None:
        return None
    try:
        rule = SoftRule.of(head, conditions, members) if soft else Rule.of(head, conditions, members)
    except InvalidRule:
        return None
    return rule if rule_text(rule) == line else None


def steps_behind(line, at):
    """The list of the steps that are written from here to the end of a line, or None."""
    steps = []
    sign = " does "
    while at < len(line):
        if line[at:at + len(sign)] != sign:
            return None
        start = at + len(sign)
        end = symbol_end(line, start)
        found = spelled(line, end + 1)
        if found is None:
            return None
        value, at = found
        word = line[start:end]
        if word == "call" and isinstance(value, tuple):
            steps.append((word, *value))
        else:
            steps.append((word, value))
        sign = ", "
    return steps


def function_in(line):
    """The function that a line writes, or None."""
    found = spelled(line, len(FUNCTION))
    if found is None or isinstance(found[0], str):
        return None
    start, at = found
    behind = spelled_behind(line, at, " wants ")
    if behind is None:
        return None
    wants, at = behind
    body = steps_behind(line, at)
    if body is None:
        return None
    try:
        function = Function.of(start[0], start[1:], wants, body)
    except InvalidFunction:
        return None
    return function if function_text(function) == line else None


def item_in(line):
    """The (field, item) of a package that a line writes, or None."""
    word = line[:symbol_end(line, 0)]
    field = None
    item = None
    if word == "sort":
        field, item = "sorts", sort_in(line)
    elif word in ("trait", "mark"):
        field, item = "traits", trait_in(line)
    elif word in ("rule", "soft"):
        field, item = "rules", rule_in(line)
    elif word == "function":
        field, item = "functions", function_in(line)
    return None if item is None else (field, item)
