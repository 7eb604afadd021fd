"""The desk, which does what commands say with a shelf."""

from nevermet.commands import said
from nevermet.reader import read_package
from nevermet.shelf import Shelf


class Desk:
    """A shelf that is spoken to."""

    def __init__(self, *texts):
        packages = [read_package(text) for text in texts]
        self._shelf = Shelf.of(packages)

    @classmethod
    def of(cls, texts):
        """The desk for the texts of a list or tuple."""
        return cls(*texts)

    def say(self, line):
        """Carry out a command and return its answer."""
        return said(self._shelf, line)
