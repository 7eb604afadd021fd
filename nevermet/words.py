"""The words that a package names, and the complaints about words and forms."""

from nevermet.known import SORTS, TRAITS, is_declared, knows_question, knows_terms
from nevermet.names import is_member_word
from nevermet.places import own_place
from nevermet.terms import walk, words


def expressions_of(rule):
    """The list of the member expressions of a rule."""
    members = rule.members
    return [members[name] for name in members]


def named(package):
    """The ascending tuple of the words that the rules and functions of a package name."""
    found = []
    for rule in package.rules:
        found.extend([rule.head, *rule.conditions, *expressions_of(rule)])
    for function in package.functions:
        found.extend(function.wants)
        found.extend([step[1] if step[0] == "ask" else step[1:] for step in function.body])
    return words(*found)


def members_of(house, trait):
    """The names of the members of a trait of the house."""
    owner = house.owner_of(trait)
    return [members for name, _, _, members in house[owner].traits if f"{owner}.{name}" == trait][0]


def trait_of(word):
    """The word of the trait in a member word."""
    return word.rpartition(".")[0]


def is_member(house, word):
    """Whether the house declares the member of a trait that a member word names."""
    trait, _, member = word.rpartition(".")
    return house.sort_of(trait) in TRAITS and member in members_of(house, trait)


def knows_piece(house, names, piece):
    """Whether these packages declare the word or member word of a piece of a member expression, with so many parts."""
    word, many = piece[0], len(piece) - 1
    if is_member_word(word):
        return is_declared(house, names, trait_of(word), TRAITS, many) and is_member(house, word)
    return is_declared(house, names, word, SORTS, many)


def knows_expression(house, names, expression):
    """Whether these packages declare all that a member expression names."""
    return all([isinstance(piece, str) or knows_piece(house, names, piece) for piece in walk((expression,))])


def knows_rule(house, names, rule):
    """Whether these packages declare all that a rule names."""
    if not all([knows_question(house, names, question, TRAITS) for question in [rule.head, *rule.conditions]]):
        return False
    return all([knows_expression(house, names, expression) for expression in expressions_of(rule)])


def knows_step(house, name, step, earlier):
    """Whether a package sees all that a step of a function names; of its own functions, only the earlier ones."""
    names = house.view(name)
    if step[0] == "ask":
        return knows_question(house, names, step[1], ("trait",))
    word, terms = step[1], step[2:]
    if not is_declared(house, names, word, ("function",), len(terms)):
        return False
    return knows_terms(house, names, terms) and (house.owner_of(word) != name or word in earlier)


def knows_function(house, name, index):
    """Whether the package of a function sees all that it names, as the function names it."""
    functions = house[name].functions
    if not all([knows_question(house, house.view(name), want, TRAITS) for want in functions[index].wants]):
        return False
    earlier = [f"{name}.{one.name}" for one in functions[:index]]
    return all([knows_step(house, name, step, earlier) for step in functions[index].body])


def wrong_words(house, name):
    """The tuple of the complaints about words."""
    names = house.view(name)
    complaints = [("word", "rules", index) for index, rule in enumerate(house[name].rules)
                  if not knows_rule(house, names, rule)]
    complaints.extend([("word", "functions", index) for index in range(len(house[name].functions))
                       if not knows_function(house, name, index)])
    return tuple(complaints)


def is_wrong_mark(house, rule):
    """Whether a rule for a mark is soft, or has a condition of a plain trait."""
    if house.sort_of(rule.trait) != "mark":
        return False
    return rule.soft or any([house.sort_of(condition[0]) != "mark" for condition in rule.conditions])


def has_wrong_members(house, rule):
    """Whether a rule has other members than its trait, or asks in them what is no condition."""
    if sorted(rule.members) != list(members_of(house, rule.trait)):
        return True
    asked = [piece for expression in expressions_of(rule) for piece in walk((expression,))
             if isinstance(piece, tuple) and is_member_word(piece[0])]
    return any([(trait_of(piece[0]), *piece[1:]) not in rule.conditions for piece in asked])


def wrong_forms(house, name):
    """The tuple of the complaints about forms; there must be none about words."""
    complaints = []
    for index, rule in enumerate(house[name].rules):
        if is_wrong_mark(house, rule):
            complaints.append(("mark", index))
        if has_wrong_members(house, rule):
            complaints.append(("member", index))
        if own_place(house, name, index) is None:
            complaints.append(("place", index))
    return tuple(complaints)
