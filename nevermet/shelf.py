"""The shelf, which keeps all editions of some packages."""

from nevermet.asking import ask
from nevermet.changes import standing, verdict_of
from nevermet.errors import InvalidLimit, Mismatch, NoEdition, NothingToUndo, Refused, TooMany
from nevermet.houses import House
from nevermet.kinds import is_integer
from nevermet.known import need_known
from nevermet.looks import complaints_about, is_let_by
from nevermet.terms import words
from nevermet.texts import term_text


def owners_in(question):
    """The list of the names of the packages that own the words of a question."""
    return [word.partition(".")[0] for word in words(question)]


class Shelf:
    """All editions of some packages, in the order in which they were put."""

    MOST = 200

    def __init__(self, *packages, room=100):
        if not is_integer(room) or not 0 <= room <= self.MOST:
            raise InvalidLimit(room)
        self._room = room
        self._order = []
        # For each name the list of (package, verdict, dict of the noted editions), an edition each.
        self._editions = {}
        # For each text of a question (owners of its words, answer).
        self._answers = {}
        self._asked = 0
        for package in packages:
            self.put(package)

    @classmethod
    def of(cls, packages, *, room=100):
        """The shelf of the packages of a list or tuple."""
        return cls(*packages, room=room)

    @property
    def names(self):
        """The ascending tuple of the names of the packages."""
        return tuple(sorted(self._editions))

    @property
    def room(self):
        """How many editions there may be."""
        return self._room

    @property
    def asked(self):
        """How many questions were asked that had no kept answer."""
        return self._asked

    @property
    def kept(self):
        """How many answers are kept."""
        return len(self._answers)

    def __len__(self):
        return len(self._order)

    def __contains__(self, x):
        return isinstance(x, str) and x in self._editions

    def __getitem__(self, at):
        if at not in self:
            raise NoEdition(at, 0)
        return self._editions[at][-1][0]

    def __iter__(self):
        raise TypeError("a shelf is not iterated over")

    def __eq__(self, other):
        return isinstance(other, Shelf) and self._order == other._order

    def _edition_row(self, name, number):
        """What is kept of an edition."""
        if name not in self or not is_integer(number) or not 1 <= number <= len(self._editions[name]):
            raise NoEdition(name, number)
        return self._editions[name][number - 1]

    def package_at(self, name, number):
        """An edition of a package."""
        return self._edition_row(name, number)[0]

    def verdict(self, name, number):
        """What was returned when an edition was put."""
        return self._edition_row(name, number)[1]

    def noted(self, name, number):
        """The dict of the editions that are noted with an edition."""
        return dict(self._edition_row(name, number)[2])

    def _with_seen(self, chosen):
        """The dict of some packages by their names, with the newest editions of all further packages that they see."""
        found = dict(chosen)
        waiting = list(chosen)
        while waiting:
            needs = found[waiting.pop()].needs
            for need in needs:
                if need not in found and need in self._editions:
                    found[need] = self[need]
                    waiting.append(need)
        return found

    def _can_stand(self, packages, name, number):
        """Whether a package that is noted with this edition can stand among packages, a dict by their names."""
        if name not in packages or packages[name].edition < number:
            return False
        later = self._editions[name][number:packages[name].edition]
        # An edition that is being put has no verdict yet, so it is not a quiet one.
        return len(later) == packages[name].edition - number and all([row[1] == "quiet" for row in later])

    def _standing_house(self, packages, others):
        """The house of a dict of packages, the others of which must be able to stand together with what they noted."""
        house = House.of(list(packages.values()))
        for name in sorted(others):
            noted = self.noted(name, packages[name].edition)
            for other in sorted(noted):
                if not self._can_stand(packages, other, noted[other]):
                    raise Mismatch(name, other)
        return house

    def house_with(self, package):
        """The house of a package, as it would be put, and of the newest editions of all that it sees."""
        packages = self._with_seen({package.name: package})
        return self._standing_house(packages, [name for name in packages if name != package.name])

    def _judged(self, package, house):
        """The verdict about an edition that could be put, in its house, and the notes about its rules."""
        if package.edition == 1:
            return ("first", ())
        elder = self[package.name]
        if standing(elder, package) is not None:
            return ("changed", ())
        elder_house = house.with_package(elder)
        if not is_let_by(elder_house, elder.name):
            return ("changed", ())
        return verdict_of(elder_house, house, elder.name)

    def judged(self, package):
        """What `put` would return, the notes of the judgement, and the dict of the editions noted; raises as `put`."""
        if package.edition != len(self._editions.get(package.name, ())) + 1:
            raise NoEdition(package.name, package.edition)
        if len(self) >= self._room:
            raise TooMany(self._room)
        house = self.house_with(package)
        complaints = complaints_about(house, package.name)
        if complaints:
            raise Refused(complaints)
        verdict, notes = self._judged(package, house)
        return verdict, notes, {name: house[name].edition for name in house.sees(package.name)}

    def _drop(self, name):
        """Drop the kept answers of the questions with a word whose owner is this package, which is there, or sees it.

        Which packages see it does not depend on its own edition, so these are the same before and behind a change.
        """
        if not self._answers:
            return
        concerned = [one for one in self._editions if name in self._with_seen({one: self[one]})]
        self._answers = {text: self._answers[text] for text in self._answers
                         if not any([owner in concerned for owner in self._answers[text][0]])}

    def put(self, package):
        """Add an edition; returns the verdict about it."""
        verdict, _, noted = self.judged(package)
        self._order.append(package)
        self._editions.setdefault(package.name, []).append((package, verdict, noted))
        self._drop(package.name)
        return verdict

    def undo(self):
        """Take back the last `put` that was not taken back; returns its package."""
        if not self._order:
            raise NothingToUndo()
        package = self._order.pop()
        self._drop(package.name)
        self._editions[package.name].pop()
        if not self._editions[package.name]:
            del self._editions[package.name]
        return package

    def put_all(self, packages):
        """Put the packages of a list or tuple, all or none; returns the tuple of the verdicts."""
        other = self.twin()
        verdicts = [other.put(package) for package in packages]
        self._take(other)
        return tuple(verdicts)

    def would(self, package):
        """What `put` would return."""
        return self.judged(package)[0]

    def would_answer(self, package, question, *, by):
        """What `ask` would return if a package were put."""
        other = self.twin()
        other.put(package)
        return other.ask(question, by=by)

    def house(self, *names, **editions):
        """The house of the newest editions of these names, of these editions, and of the newest ones that they see."""
        return self._house_for(names, editions)

    def house_of(self, editions):
        """As `house`, for a dict of names and editions."""
        return self._house_for((), editions)

    def _house_for(self, names, editions):
        """As `house`, for a list or tuple of names and a dict of names and editions."""
        packages = {}
        for name in names:
            packages[name] = self[name]
        for name in sorted(editions):
            packages[name] = self.package_at(name, editions[name])
        packages = self._with_seen(packages)
        return self._standing_house(packages, list(packages))

    def ask(self, question, *, by):
        """The answer to a ground question for a package, kept or asked."""
        house = self.house(by)
        need_known(house, question)
        text = term_text(question)
        if text not in self._answers:
            answer = ask(house, question)
            self._asked += 1
            self._answers[text] = (owners_in(question), answer)
        return self._answers[text][1]

    def set_room(self, room):
        """Change how many editions there may be."""
        if not is_integer(room) or not len(self) <= room <= self.MOST:
            raise InvalidLimit(room)
        self._room = room

    def _take(self, other):
        """Become equal to another shelf in every respect."""
        self._room = other._room
        self._order = list(other._order)
        self._editions = {name: list(other._editions[name]) for name in other._editions}
        self._answers = {text: other._answers[text] for text in other._answers}
        self._asked = other._asked

    def twin(self):
        """Another shelf in the same state."""
        made = Shelf()
        made._take(self)
        return made
