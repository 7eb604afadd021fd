"""Functions."""

from nevermet.errors import InvalidFunction
from nevermet.kinds import is_row
from nevermet.names import is_name, is_variable, is_word
from nevermet.terms import is_question, is_term, variables_in
from nevermet.texts import function_text

MOST_VARIABLES = 3
MOST_WANTS = 6
MOST_STEPS = 8


def are_variables(things):
    """Whether any value is a list or tuple of different variables, and of no more than a function may have."""
    if not is_row(things) or len(things) > MOST_VARIABLES or not all([is_variable(thing) for thing in things]):
        return False
    return len(set(things)) == len(things)


def are_wants(things):
    """Whether any value is a list or tuple of different questions, and of no more than a function may have."""
    if not is_row(things) or len(things) > MOST_WANTS or not all([is_question(thing) for thing in things]):
        return False
    return not any([thing in things[:at] for at, thing in enumerate(things)])


def is_body_step(thing):
    """Whether any value is a step of a function."""
    if not isinstance(thing, tuple) or len(thing) < 2:
        return False
    if thing[0] == "ask":
        return len(thing) == 2 and is_question(thing[1])
    if thing[0] != "call" or len(thing) > 2 + MOST_VARIABLES:
        return False
    return is_word(thing[1]) and all([is_term(term) for term in thing[2:]])


def is_body(things):
    """Whether any value is a list or tuple of steps, and of no more than a function may have."""
    return is_row(things) and len(things) <= MOST_STEPS and all([is_body_step(thing) for thing in things])


def step_terms(step):
    """The list of the terms and questions of a step."""
    return [step[1]] if step[0] == "ask" else list(step[2:])


def wrong_part(name, variables, wants, body):
    """The reason why these parts make no function, or None."""
    if not is_name(name):
        return "name"
    if not are_variables(variables):
        return "variables"
    if not are_wants(wants):
        return "wants"
    if not is_body(body):
        return "body"
    used = variables_in([*wants, *[term for step in body for term in step_terms(step)]])
    return None if all([one in variables for one in used]) else "free"


def need_right(name, variables, wants, body):
    """Raise InvalidFunction if these parts make no function."""
    reason = wrong_part(name, variables, wants, body)
    if reason is not None:
        raise InvalidFunction(reason)


class Function:
    """A function."""

    def __init__(self, name, *variables, wants=(), body=()):
        need_right(name, variables, wants, body)
        # A plain attribute, since errors keep attributes of this name, too.
        self.name = name
        self._variables = tuple(variables)
        self._wants = tuple(wants)
        self._body = tuple(body)

    @classmethod
    def of(cls, name, variables, wants, body):
        """The function with the variables of a list or tuple."""
        need_right(name, variables, wants, body)
        return cls(name, *variables, wants=wants, body=body)

    @property
    def variables(self):
        """The tuple of the variables."""
        return self._variables

    @property
    def wants(self):
        """The tuple of the wants."""
        return self._wants

    @property
    def body(self):
        """The tuple of the steps."""
        return self._body

    def __eq__(self, other):
        return (isinstance(other, Function) and self.name == other.name and self._variables == other.variables
                and self._wants == other.wants and self._body == other.body)

    def __str__(self):
        return str(function_text(self))
