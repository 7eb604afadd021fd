"""Functions that are run."""

from nevermet.asking import holds
from nevermet.errors import NoAnswer, TooMany, UnknownWord
from nevermet.evidence import evidence
from nevermet.handing import Handing
from nevermet.known import function_named
from nevermet.terms import filled, size

MOST_STEPS = 400
MOST_SYMBOLS = 64


def start_of(house, word, terms):
    """The function with a word, and the fill of its variables by terms."""
    if house.sort_of(word) != "function":
        raise UnknownWord(word)
    function = function_named(house, word)
    return function, dict(zip(function.variables, terms))


def passed_by(step, fill):
    """The list of the terms that a step passes to the function that it calls."""
    terms = [filled(term, fill) for term in step[2:]]
    if any([size(term) > MOST_SYMBOLS for term in terms]):
        raise TooMany(MOST_SYMBOLS)
    return terms


def steps_done(house, word, terms):
    """Yield (word of the function, index of the step, step, fill) for the steps, in the order of doing them."""
    function, fill = start_of(house, word, terms)
    frames = [[word, function, fill, 0]]
    count = 0
    while frames:
        name, function, fill, at = frames[-1]
        if at == len(function.body):
            frames.pop()
            continue
        count += 1
        if count > MOST_STEPS:
            raise TooMany(MOST_STEPS)
        step = function.body[at]
        frames[-1][3] = at + 1
        if step[0] == "call":
            called, inner = start_of(house, step[1], passed_by(step, fill))
            frames.append([step[1], called, inner, 0])
        yield (name, at, step, fill)


def wanted(house, word, terms):
    """The list of the wants of a function, filled with terms."""
    function, fill = start_of(house, word, terms)
    return [filled(want, fill) for want in function.wants]


def run_handed(house, word, *terms):
    """The list of the evidence of all asks, put together along the resolutions of the steps."""
    handing = Handing(house)
    for want in wanted(house, word, terms):
        handing.hand_on(evidence(house, want))
    found = []
    for name, at, step, fill in steps_done(house, word, terms):
        handing.hand_along(name, at, fill)
        if step[0] == "ask":
            found.append(handing.evidence_for(filled(step[1], fill)))
    return found


def run_copied(house, word, *terms):
    """The list of the evidence of all asks, each one asked in the house."""
    for want in wanted(house, word, terms):
        if not holds(house, want):
            raise NoAnswer(want)
    return [evidence(house, filled(step[1], fill)) for _, _, step, fill in steps_done(house, word, terms)
            if step[0] == "ask"]
