"""Words that the packages of a house declare as what they stand for."""

from nevermet.errors import UnknownWord
from nevermet.terms import walk, words

SORTS = ("sort",)
TRAITS = ("trait", "mark")


def unknown_words(house, question):
    """The list of the words of a question that the house does not declare as what they stand for."""
    trait, *places = question
    unknown = [word for word in words(*places) if house.sort_of(word) != "sort"]
    return unknown if house.sort_of(trait) in TRAITS else [trait, *unknown]


def need_known(house, question):
    """Raise UnknownWord with the least unknown word of a question."""
    unknown = unknown_words(house, question)
    if unknown:
        raise UnknownWord(min(unknown))


def is_declared(house, names, word, kinds, many):
    """Whether packages with these names declare a word as something of these kinds with so many places."""
    return house.sort_of(word) in kinds and house.places_of(word) == many and house.owner_of(word) in names


def knows_terms(house, names, terms):
    """Whether these packages declare all words of some terms, as sorts with their numbers of parts."""
    found = [piece for piece in walk(terms) if isinstance(piece, tuple)]
    return all([is_declared(house, names, piece[0], SORTS, len(piece) - 1) for piece in found])


def knows_question(house, names, question, kinds):
    """Whether these packages declare all words of a question, its trait as one of these kinds."""
    if not is_declared(house, names, question[0], kinds, len(question) - 1):
        return False
    return knows_terms(house, names, question[1:])


def function_named(house, word):
    """The function with a word, or None."""
    owner = house.owner_of(word)
    if owner is not None:
        for function in house[owner].functions:
            if f"{owner}.{function.name}" == word:
                return function
    return None
