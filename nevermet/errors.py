"""The errors of the program; each one keeps its arguments in attributes of the same names."""


class NeverError(ValueError):
    """The base class of the errors about things that are not right."""


class InvalidTerm(NeverError):
    """A thing is not a term."""

    def __init__(self, thing):
        super().__init__("this is not a term")
        self.thing = thing


class InvalidRule(NeverError):
    """A rule cannot be made; the reason names the part that is not right."""

    def __init__(self, reason):
        super().__init__("this is not a rule")
        self.reason = reason


class InvalidFunction(NeverError):
    """A function cannot be made; the reason names the part that is not right."""

    def __init__(self, reason):
        super().__init__("this is not a function")
        self.reason = reason


class InvalidPackage(NeverError):
    """A package cannot be made because of an item of a field."""

    def __init__(self, field, index):
        super().__init__("this is not a package")
        self.field = field
        self.index = index


class NoHouse(NeverError):
    """Packages cannot stand in one house."""

    def __init__(self, reason, name):
        super().__init__("these packages are no house")
        self.reason = reason
        self.name = name


class Refused(NeverError):
    """A package is not let by."""

    def __init__(self, complaints):
        super().__init__("there are complaints about this package")
        self.complaints = complaints


class NotNext(NeverError):
    """A package is not the next edition of another one."""

    def __init__(self, field, index):
        super().__init__("this is not the next edition")
        self.field = field
        self.index = index


class Mismatch(NeverError):
    """Two editions cannot stand in one house."""

    def __init__(self, name, other):
        super().__init__("these editions do not go together")
        self.name = name
        self.other = other


class BadPaper(NeverError):
    """An entry of a paper is not right."""

    def __init__(self, index):
        super().__init__("this paper is not right")
        self.index = index


class InvalidText(NeverError):
    """A line of a text is not right."""

    def __init__(self, line):
        super().__init__("this text is not right")
        self.line = line


class InvalidCommand(NeverError):
    """A word of a command is not right."""

    def __init__(self, word):
        super().__init__("this command is not right")
        self.word = word


class InvalidLimit(NeverError):
    """A limit is not right."""

    def __init__(self, limit):
        super().__init__("this is not a limit")
        self.limit = limit


class UnknownWord(KeyError):
    """A word is not declared as what it stands for."""

    def __init__(self, word):
        super().__init__("this word is not known")
        self.word = word


class NoAnswer(KeyError):
    """A question has no answer."""

    def __init__(self, question):
        super().__init__("this question has no answer")
        self.question = question


class NoEdition(KeyError):
    """There is no such edition of a package."""

    def __init__(self, name, edition):
        super().__init__("there is no such edition")
        self.name = name
        self.edition = edition


class NothingToUndo(LookupError):
    """There is nothing that could be taken back."""

    def __init__(self):
        super().__init__("there is nothing to undo")


class TooMany(OverflowError):
    """There is more of something than the limit allows."""

    def __init__(self, limit):
        super().__init__("this is too many")
        self.limit = limit
