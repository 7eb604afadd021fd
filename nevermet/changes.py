"""Next editions, and whether they harm anybody."""

from nevermet.errors import NotNext, Refused
from nevermet.looks import complaints_about
from nevermet.strangers import Strangeness, tried_forms
from nevermet.terms import head_of


def first_changed(items, later):
    """The index of the first item with which the later items do not begin, or None."""
    for at, item in enumerate(items):
        if at >= len(later) or later[at] != item:
            return at
    return None


def standing(elder, package):
    """None if a package is the next edition of another one, otherwise (field, index) of what is not so."""
    if package.name != elder.name:
        return ("name", None)
    if package.edition != elder.edition + 1:
        return ("edition", None)
    lacking = [at for at, need in enumerate(elder.needs) if need not in package.needs]
    if lacking:
        return ("needs", lacking[0])
    for field, items, later in (("sorts", elder.sorts, package.sorts), ("traits", elder.traits, package.traits),
                                ("rules", elder.rules, package.rules),
                                ("functions", elder.functions, package.functions)):
        at = first_changed(items, later)
        if at is not None:
            return (field, at)
    return None


def added_words(name, items, later):
    """The list of the words of the items behind the elder ones, sorts or traits of the package with this name."""
    return [f"{name}.{item[0]}" for item in later[len(items):]]


def guard(elder, package, index):
    """What guards a rule that a next edition adds, or None."""
    rule = package.rules[index]
    if rule.first_bare is None:
        return ("headed",)
    if rule.trait in added_words(package.name, elder.traits, package.traits):
        return ("trait",)
    fresh = added_words(package.name, elder.sorts, package.sorts)
    places = [at for at, term in enumerate(rule.places[:rule.first_bare]) if head_of(term) in fresh]
    return ("sort", places[0]) if places else None


def note_of(house, later, name, index):
    """What is noted of a rule that a next edition adds."""
    found = guard(house[name], later[name], index)
    if found is not None:
        return (index, found)
    tried, harmed = tried_forms(Strangeness(house, later, name, index))
    return (index, "covered", tuple(tried)) if harmed is None else (index, "loud", *harmed)


def verdict_of(house, later, name):
    """The verdict and the notes about a next edition that is let by; it is in the later house."""
    elder_many, many = len(house[name].rules), len(later[name].rules)
    notes = tuple([note_of(house, later, name, index) for index in range(elder_many, many)])
    told = [note[1] for note in notes]
    if "loud" in told:
        return ("loud", notes)
    return ("covered" if "covered" in told else "quiet", notes)


def judge(house, package):
    """The verdict about the next edition of a package of the house, and the notes about the rules that it adds."""
    # The house itself raises NoEdition if it has no such package.
    found = standing(house[package.name], package)
    if found is not None:
        raise NotNext(found[0], found[1])
    later = house.with_package(package)
    complaints = complaints_about(later, package.name)
    if complaints:
        raise Refused(complaints)
    return verdict_of(house, later, package.name)
