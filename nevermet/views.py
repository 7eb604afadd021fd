"""Views as houses, and what can be asked there."""

from nevermet.houses import House


def view(house, name):
    """The house of the packages in the view of a package."""
    return House.of([house[one] for one in house.view(name)])


def askable(house, name):
    """The ascending tuple of the words of sorts and traits that the packages in the view of a package own."""
    owned = [word for one in house.view(name) for word in house[one].words]
    return tuple(sorted([word for word in owned if house.sort_of(word) != "function"]))
