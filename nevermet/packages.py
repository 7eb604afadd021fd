"""Packages."""

from nevermet.errors import InvalidPackage, InvalidText
from nevermet.functions import Function
from nevermet.kinds import is_index, is_integer, is_row
from nevermet.lines import header_in, item_in
from nevermet.names import is_name
from nevermet.rules import Rule
from nevermet.texts import package_text

LAST_EDITION = 999
MOST_NEEDS = 8
MOST_PLACES = 3
MOST_MEMBERS = 3
# The fields that hold items, in the order in which they are checked and written.
FIELDS = ("sorts", "traits", "rules", "functions")
MOST_ITEMS = {"sorts": 12, "traits": 8, "rules": 30, "functions": 8}


def is_sort(thing):
    """Whether any value is a sort."""
    if not isinstance(thing, tuple) or len(thing) != 2:
        return False
    return is_name(thing[0]) and is_index(thing[1], MOST_PLACES + 1)


def are_member_names(things):
    """Whether any value is an ascending tuple of names, and of no more than a trait may have."""
    if not isinstance(things, tuple) or len(things) > MOST_MEMBERS or not all([is_name(thing) for thing in things]):
        return False
    return list(things) == sorted(set(things))


def is_trait(thing):
    """Whether any value is a trait."""
    if not isinstance(thing, tuple) or len(thing) != 4:
        return False
    name, places, mark, members = thing
    if not is_name(name) or not is_index(places, MOST_PLACES + 1) or places == 0:
        return False
    return isinstance(mark, bool) and are_member_names(members) and not (mark and members)


def is_item(field, thing):
    """Whether any value can be an item of a field."""
    if field == "sorts":
        return is_sort(thing)
    if field == "traits":
        return is_trait(thing)
    return isinstance(thing, Rule) if field == "rules" else isinstance(thing, Function)


def wrong_needs(name, needs, own):
    """The (field, index) of what is wrong with needs that are added to some own ones, or None."""
    if not is_row(needs):
        return "needs", None
    wrong = [at for at, need in enumerate(needs) if not is_name(need) or need == name]
    if wrong:
        return "needs", wrong[0]
    return ("needs", None) if len(set([*own, *needs])) > MOST_NEEDS else None


def wrong_items(field, things):
    """The (field, index) of what is wrong with the items of a field, or None."""
    if not is_row(things):
        return field, None
    wrong = [at for at, thing in enumerate(things) if not is_item(field, thing)]
    if wrong:
        return field, wrong[0]
    return (field, None) if len(things) > MOST_ITEMS[field] else None


def names_of(sorts, traits, functions):
    """The list of the names of sorts, traits and functions."""
    return [*[sort[0] for sort in sorts], *[trait[0] for trait in traits], *[one.name for one in functions]]


def wrong_part(name, needs, edition, items):
    """The (field, index) of what makes these parts no package, or None; the items are a dict by their fields."""
    if not is_name(name):
        return "name", None
    wrong = wrong_needs(name, needs, ())
    if wrong is not None:
        return wrong
    if not is_integer(edition) or not 1 <= edition <= LAST_EDITION:
        return "edition", None
    for field in FIELDS:
        wrong = wrong_items(field, items[field])
        if wrong is not None:
            return wrong
    names = names_of(items["sorts"], items["traits"], items["functions"])
    return ("names", None) if len(set(names)) < len(names) else None


def need_right(name, needs, edition, items):
    """Raise InvalidPackage if these parts make no package."""
    wrong = wrong_part(name, needs, edition, items)
    if wrong is not None:
        raise InvalidPackage(wrong[0], wrong[1])


def behind(own, things):
    """Some items behind own ones; what is no list or tuple stays what it is, to be refused."""
    return (*own, *things) if is_row(things) else things


class Package:
    """A package."""

    def __init__(self, name, *needs, edition=1, sorts=(), traits=(), rules=(), functions=()):
        need_right(name, needs, edition, {"sorts": sorts, "traits": traits, "rules": rules, "functions": functions})
        # Plain attributes, since errors keep attributes of these names, too.
        self.name = name
        self.edition = edition
        self._needs = tuple(sorted(set(needs)))
        self._sorts = tuple(sorts)
        self._traits = tuple(traits)
        self._rules = tuple(rules)
        self._functions = tuple(functions)

    @classmethod
    def of(cls, name, needs, *, edition=1, sorts=(), traits=(), rules=(), functions=()):
        """The package with the needs of a list or tuple."""
        need_right(name, needs, edition, {"sorts": sorts, "traits": traits, "rules": rules, "functions": functions})
        return cls(name, *needs, edition=edition, sorts=sorts, traits=traits, rules=rules, functions=functions)

    @classmethod
    def read(cls, text):
        """The package that a text writes."""
        if not isinstance(text, str):
            raise InvalidText(0)
        lines = text.split("\n")
        header = header_in(lines[0])
        if header is None:
            raise InvalidText(0)
        name, edition, needs = header
        items = {"sorts": [], "traits": [], "rules": [], "functions": []}
        if wrong_part(name, needs, edition, items) is not None:
            raise InvalidText(0)
        last = 0
        for at in range(1, len(lines)):
            found = item_in(lines[at])
            if found is None or FIELDS.index(found[0]) < last:
                raise InvalidText(at)
            field, item = found
            last = FIELDS.index(field)
            items[field].append(item)
            if wrong_part(name, needs, edition, items) is not None:
                raise InvalidText(at)
        return cls.of(name, needs, edition=edition, sorts=items["sorts"], traits=items["traits"],
                      rules=items["rules"], functions=items["functions"])

    def later(self, *needs, sorts=(), traits=(), rules=(), functions=()):
        """The package with the next edition, more needs, and more items behind its own."""
        wrong = wrong_needs(self.name, needs, self._needs)
        if wrong is not None:
            raise InvalidPackage(wrong[0], wrong[1])
        return Package.of(self.name, (*self._needs, *needs), edition=self.edition + 1,
                          sorts=behind(self._sorts, sorts), traits=behind(self._traits, traits),
                          rules=behind(self._rules, rules), functions=behind(self._functions, functions))

    @property
    def needs(self):
        """The ascending tuple of the names of the needed packages."""
        return self._needs

    @property
    def sorts(self):
        """The tuple of the sorts."""
        return self._sorts

    @property
    def traits(self):
        """The tuple of the traits and marks."""
        return self._traits

    @property
    def rules(self):
        """The tuple of the rules."""
        return self._rules

    @property
    def functions(self):
        """The tuple of the functions."""
        return self._functions

    @property
    def words(self):
        """The ascending tuple of the words that the package owns."""
        names = names_of(self._sorts, self._traits, self._functions)
        return tuple(sorted([f"{self.name}.{name}" for name in names]))

    def __eq__(self, other):
        return (isinstance(other, Package) and self.name == other.name and self.edition == other.edition
                and self._needs == other.needs and self._sorts == other.sorts and self._traits == other.traits
                and self._rules == other.rules and self._functions == other.functions)

    def __str__(self):
        return str(package_text(self))
