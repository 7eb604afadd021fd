"""Rules."""

from nevermet.errors import InvalidRule
from nevermet.kinds import is_row
from nevermet.matching import is_instance, matched
from nevermet.names import is_name
from nevermet.terms import filled_all, is_constant, is_question, is_within, pieces, variables_in
from nevermet.texts import rule_text

MOST_CONDITIONS = 4


def is_expression(thing):
    """Whether any value is a member expression."""
    return is_within(thing, True)


def are_conditions(things):
    """Whether any value is a list or tuple of questions, and of no more than a rule may have."""
    return is_row(things) and len(things) <= MOST_CONDITIONS and all([is_question(thing) for thing in things])


def are_members(things):
    """Whether any value is a dict from names to member expressions."""
    return isinstance(things, dict) and all([is_name(name) and is_expression(things[name]) for name in things])


def has_variables(head, conditions, members):
    """Whether the head has each variable of the conditions and members."""
    known = variables_in(head[1:])
    expressions = [members[name] for name in members]
    return all([variable in known for variable in variables_in([*conditions, *expressions])])


def has_pieces(head, conditions):
    """Whether each place of a condition is a piece of a place of the head, or a constant."""
    known = [piece for place in head[1:] for piece in pieces(place)]
    return all([place in known or is_constant(place) for condition in conditions for place in condition[1:]])


def wrong_part(head, conditions, members):
    """The reason why these parts make no rule, or None."""
    if not is_question(head):
        return "head"
    if not are_conditions(conditions):
        return "conditions"
    if not are_members(members):
        return "members"
    if not has_variables(head, conditions, members):
        return "variables"
    return None if has_pieces(head, conditions) else "pieces"


def need_right(head, conditions, members):
    """Raise InvalidRule if these parts make no rule."""
    reason = wrong_part(head, conditions, members)
    if reason is not None:
        raise InvalidRule(reason)


class Rule:
    """A hard rule."""

    def __init__(self, head, *conditions, **members):
        need_right(head, conditions, members)
        self._head = head
        self._conditions = tuple(conditions)
        self._members = dict(members)

    @classmethod
    def of(cls, head, conditions, members):
        """The hard rule with these conditions and members."""
        # Keys such as `self` cannot be passed as keywords, so they are refused before.
        need_right(head, conditions, members)
        return cls(head, *conditions, **members)

    @property
    def head(self):
        """The question that the rule answers."""
        return self._head

    @property
    def conditions(self):
        """The tuple of the conditions."""
        return self._conditions

    @property
    def members(self):
        """A dict from the names of the members to their expressions."""
        return dict(self._members)

    @property
    def soft(self):
        """Whether the rule is soft."""
        return False

    @property
    def trait(self):
        """The word of the head."""
        return self._head[0]

    @property
    def places(self):
        """The tuple of the terms of the head."""
        return self._head[1:]

    @property
    def first_bare(self):
        """The first bare place of the head, or None."""
        bare = [at for at, place in enumerate(self._head[1:]) if isinstance(place, str)]
        return bare[0] if bare else None

    def fills(self, question):
        """The fill that makes the head the question, or None."""
        if question[0] != self._head[0] or len(question) != len(self._head):
            return None
        return matched(self._head[1:], question[1:])

    def conditions_for(self, question):
        """The tuple of the conditions, filled so that the head is the question; or None."""
        fill = self.fills(question)
        return None if fill is None else filled_all(self._conditions, fill)

    def __eq__(self, other):
        return (isinstance(other, Rule) and self.soft == other.soft and self._head == other.head
                and self._conditions == other.conditions and self._members == other.members)

    def __str__(self):
        return str(rule_text(self))


class SoftRule(Rule):
    """A soft rule."""

    @classmethod
    def of(cls, head, conditions, members):
        """The soft rule with these conditions and members."""
        need_right(head, conditions, members)
        return cls(head, *conditions, **members)

    @property
    def soft(self):
        """Whether the rule is soft."""
        return True


def beneath(rule, other):
    """Whether a rule is beneath another one."""
    if rule.trait != other.trait or len(rule.places) != len(other.places):
        return False
    return is_instance(rule.places, other.places) and not is_instance(other.places, rule.places)
