"""Terms as objects."""

from nevermet.errors import InvalidTerm
from nevermet.matching import is_instance
from nevermet.reader import read_term
from nevermet.terms import filled, is_constant, is_term, pieces, size, variables
from nevermet.texts import term_text
from nevermet.unify import meet


class Term:
    """An object for a term."""

    MOST = 40

    def __init__(self, term):
        if not is_term(term):
            raise InvalidTerm(term)
        self._shape = term

    @classmethod
    def read(cls, text):
        """The object for the term that a text writes."""
        return cls(read_term(text))

    @property
    def shape(self):
        """The term itself."""
        return self._shape

    @property
    def size(self):
        """The number of symbols."""
        return size(self._shape)

    @property
    def variables(self):
        """The tuple of the variables."""
        return variables(self._shape)

    def at(self, **fill):
        """The object for the term filled with the terms of other objects."""
        return Term(filled(self._shape, {name: fill[name].shape for name in fill}))

    def __call__(self, first=None, second=None, third=None):
        if not is_constant(self._shape):
            raise InvalidTerm(self._shape)
        shape = self._shape
        for part in (first, second, third):
            # What stands behind a None counts as None, too.
            if part is None:
                break
            shape = (*shape, part.shape)
        return Term(shape)

    def is_instance(self, other):
        """Whether the term is an instance of the other one."""
        return isinstance(other, Term) and is_instance((self._shape,), (other.shape,))

    def __and__(self, other):
        if not isinstance(other, Term):
            return NotImplemented
        found = meet((self._shape,), (other.shape,))
        return None if found is None else Term(found[0])

    def __eq__(self, other):
        return isinstance(other, Term) and self._shape == other.shape

    def __contains__(self, x):
        return isinstance(x, Term) and x.shape in pieces(self._shape)

    def __str__(self):
        return str(term_text(self._shape))

    def __repr__(self):
        return f"Term({term_text(self._shape)})"
