"""Houses."""

from nevermet.errors import NoEdition, NoHouse, TooMany

MOST_PACKAGES = 12


def seen_from(packages, name):
    """The ascending tuple of the names that a package sees, its own one too if the needs go round through it."""
    found = {}
    waiting = list(packages[name].needs)
    while waiting:
        one = waiting.pop()
        if one not in found:
            found[one] = True
            waiting.extend(packages[one].needs)
    return tuple(sorted(found))


def by_names(packages):
    """The dict of the packages by their names, ascending; raises NoHouse if two have one name."""
    found = {}
    for package in packages:
        if package.name in found:
            raise NoHouse("twice", package.name)
        found[package.name] = package
    return {name: found[name] for name in sorted(found)}


def need_all(packages):
    """Raise NoHouse if a needed package is not there."""
    lacking = [need for name in packages for need in packages[name].needs if need not in packages]
    if lacking:
        raise NoHouse("need", min(lacking))


def all_seen(packages):
    """The dict of what each package sees; raises NoHouse if needs go round."""
    seen = {name: seen_from(packages, name) for name in packages}
    ring = [name for name in packages if name in seen[name]]
    if ring:
        raise NoHouse("ring", ring[0])
    return seen


def declared_by(package):
    """The dict of the words that a package owns, each with (what it stands for, number of places)."""
    found = {}
    for name, places in package.sorts:
        found[f"{package.name}.{name}"] = ("sort", places)
    for name, places, mark, _ in package.traits:
        found[f"{package.name}.{name}"] = ("mark" if mark else "trait", places)
    for function in package.functions:
        found[f"{package.name}.{function.name}"] = ("function", len(function.variables))
    return found


def all_declared(packages):
    """The dict of the words of all packages, each with (owner, what it stands for, number of places)."""
    found = {}
    for name in packages:
        declared = declared_by(packages[name])
        for word in declared:
            found[word] = (name, *declared[word])
    return found


def rules_by_head(packages):
    """The dict from the words of heads to the lists of ((package, index), rule), in order."""
    found = {}
    for name in packages:
        for index, rule in enumerate(packages[name].rules):
            found.setdefault(rule.trait, []).append(((name, index), rule))
    return found


class House:
    """A set of packages that can stand together."""

    def __init__(self, *packages):
        if len(packages) > MOST_PACKAGES:
            raise TooMany(MOST_PACKAGES)
        self._packages = by_names(packages)
        need_all(self._packages)
        self._seen = all_seen(self._packages)
        self._declared = all_declared(self._packages)
        self._headed = rules_by_head(self._packages)

    @classmethod
    def of(cls, packages):
        """The house of the packages of a list or tuple."""
        return cls(*packages)

    @property
    def names(self):
        """The ascending tuple of the names of the packages."""
        return tuple(self._packages)

    def __getitem__(self, at):
        if at not in self:
            raise NoEdition(at, 0)
        return self._packages[at]

    def __iter__(self):
        raise TypeError("a house is not iterated over")

    def __contains__(self, x):
        return isinstance(x, str) and x in self._packages

    def __len__(self):
        return len(self._packages)

    def __eq__(self, other):
        return isinstance(other, House) and self._packages == other._packages

    def __repr__(self):
        told = [f"{name} {self._packages[name].edition}" for name in self._packages]
        return f"House({', '.join(told)})"

    def sees(self, name):
        """The ascending tuple of the names of the packages that a package sees."""
        return self._seen[name]

    def view(self, name):
        """The ascending tuple of the names of the packages in the view of a package."""
        return tuple(sorted([name, *self._seen[name]]))

    def _declaration(self, word):
        """What is known of any value as a word: (owner, what it stands for, number of places)."""
        if not isinstance(word, str) or word not in self._declared:
            return None, None, None
        return self._declared[word]

    def owner_of(self, word):
        """The name of the package that owns a word, or None."""
        return self._declaration(word)[0]

    def sort_of(self, word):
        """What a word stands for, or None."""
        return self._declaration(word)[1]

    def places_of(self, word):
        """The number of the places of a word, or None."""
        return self._declaration(word)[2]

    def rules_for(self, trait, *, by=None):
        """Yield the pairs (package, index) of the rules for a trait, in order."""
        names = self.names if by is None else self.view(by)
        rows = self.headed(trait) if self.sort_of(trait) in ("trait", "mark") else ()
        for (name, index), _ in rows:
            if name in names:
                yield (name, index)

    def headed(self, word):
        """The tuple of ((package, index), rule) for the rules with this word as that of their heads, in order."""
        return tuple(self._headed.get(word, ()))

    def rule(self, name, index):
        """The rule with an index of a package."""
        return self._packages[name].rules[index]

    def with_package(self, package):
        """The house with a package in the place of the one with its name, if there is one."""
        others = [self._packages[name] for name in self._packages if name != package.name]
        return House(*others, package)
