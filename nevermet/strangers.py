"""Strangers: small packages that a rule which is added might harm."""

from nevermet.houses import House
from nevermet.looks import complaints_about
from nevermet.packages import Package
from nevermet.places import bare_places
from nevermet.rules import Rule
from nevermet.tables import lasts
from nevermet.terms import filled, filled_all, variables_in, words

MOST_CONSTANTS = 8


def owner_in(word):
    """The name of the package that owns a word."""
    return word.partition(".")[0]


def stranger_name(names):
    """The name of a stranger to packages with these names."""
    name = "s"
    while name in names:
        name = name + "s"
    return name


def numbered(many, first):
    """The tuple of so many variables, the first one with this number."""
    return tuple([f"V{first + at}" for at in range(many)])


def across(head, full, place):
    """The head of the rule of the form ("across", place), from a head and its full fill."""
    return (head[0], *filled_all(head[1:place + 2], full), *numbered(len(head) - place - 2, 0))


def wide(head, full, place):
    """The head of the rule of the form ("wide", place), from a head and its full fill."""
    places = []
    count = 0
    for at, term in enumerate(head[1:]):
        if at > place:
            places.extend(numbered(1, count))
            count += 1
        elif isinstance(term, str):
            places.append(filled(term, full))
        else:
            places.append((term[0], *numbered(len(term) - 1, count)))
            count += len(term) - 1
    return (head[0], *places)


def complaints_among(packages, stranger):
    """The tuple of the complaints about a stranger in the house of itself and of these packages."""
    return complaints_about(House.of([stranger, *packages]), stranger.name)


class Strangeness:
    """A rule that a next edition adds, and the houses in which strangers for it are looked at.

    The elder house contains the elder edition and all packages that both editions see.
    """

    def __init__(self, house, later, name, index):
        self._elders = [house[one] for one in house.view(name)]
        self._laters = [later[one] for one in later.view(name)]
        self._elder_names = house.view(name)
        self._house = house
        self._package = name
        self._new_rule = later.rule(name, index)
        self._plain = later.sort_of(self._new_rule.trait) == "trait"
        self._stranger = stranger_name(later.view(name))
        variables = variables_in(self._new_rule.places)
        self._few = len(variables) <= MOST_CONSTANTS
        self._constants = ["k" * (at + 1) for at in range(len(variables))]
        self._full = {one: (f"{self._stranger}.{self._constants[at]}",) for at, one in enumerate(variables)}

    def _is_known(self, word):
        """Whether the stranger, the elder edition or a package that this one sees owns a word."""
        return owner_in(word) == self._stranger or self._house.owner_of(word) in self._elder_names

    def _heads(self):
        """The list of (form, head of its first rule, conditions of this one) for all forms, in order."""
        head = self._new_rule.head
        full = filled(head, self._full)
        found = []
        if self._plain and not self._new_rule.soft:
            found.append((("full",), full, ()))
        for place in bare_places(self._new_rule) if self._plain else ():
            found.append((("across", place), across(head, self._full, place), ()))
            found.append((("wide", place), wide(head, self._full, place), ()))
        found.append((("uses",), (f"{self._stranger}.t", *full[1:]), (full,)))
        return found

    def _package_of(self, form, rules):
        """The stranger of a form with these rules."""
        traits = [("t", len(self._new_rule.places), False, ())] if form == ("uses",) else []
        return Package(self._stranger, self._package, sorts=[(name, 0) for name in self._constants], traits=traits,
                       rules=rules)

    def _helped(self, form, rules):
        """The stranger of a form with these rules, and with its helping rules behind them."""
        stranger = self._package_of(form, rules)
        for condition in filled_all(self._new_rule.conditions, self._full):
            if all([self._is_known(word) for word in words(condition)]):
                if lasts(House.of([stranger, *self._elders]), self._stranger, condition):
                    rules = [*rules, Rule(condition)]
                    stranger = self._package_of(form, rules)
        return stranger

    def strangers(self):
        """Yield (form, stranger) for the forms that are not left out, in order."""
        for form, head, conditions in self._heads() if self._few else ():
            if all([self._is_known(word) for word in words(head, *conditions)]):
                rules = [Rule.of(head, conditions, {})]
                if conditions:
                    rules.append(Rule(head))
                yield (form, self._helped(form, rules))

    def elder_complaints(self, stranger):
        """The tuple of the complaints about a stranger with the elder edition."""
        return complaints_among(self._elders, stranger)

    def is_harmed(self, stranger):
        """Whether a stranger that is let by with the elder edition is refused with the next one."""
        return len(complaints_among(self._laters, stranger)) > 0


def forms(house, package, index):
    """Yield (form, stranger) for the forms of a rule that a next edition adds, in order."""
    strangeness = Strangeness(house, house.with_package(package), package.name, index)
    # All errors are raised before the first one is yielded.
    found = list(strangeness.strangers())
    yield from found


def tried_forms(strangeness):
    """The list of (form, complaints with the elder edition) up to the witness, and (form, stranger) of this or None."""
    tried = []
    for form, stranger in strangeness.strangers():
        complaints = strangeness.elder_complaints(stranger)
        if not complaints and strangeness.is_harmed(stranger):
            return tried, (form, stranger)
        tried.append((form, complaints))
    return tried, None


def witness(house, package, index):
    """The first (form, stranger) that is let by with the elder edition and refused with the next one, or None."""
    return tried_forms(Strangeness(house, house.with_package(package), package.name, index))[1]


def check_witness(house, package, stranger):
    """Whether any value is a stranger that is let by with the elder edition and refused with the next one."""
    if not isinstance(stranger, Package) or stranger.needs != (package.name,):
        return False
    later = house.with_package(package)
    names = later.view(package.name)
    if stranger.name in names:
        return False
    if complaints_among([house[name] for name in house.view(package.name)], stranger):
        return False
    return len(complaints_among([later[name] for name in names], stranger)) > 0
