"""Mixes and trials that many tests are made of."""

from glazetold.mixes import Mix
from glazetold.trials import Trial

GREAT = 10 ** 40 - 1
BEYOND = 10 ** 6000

FIELDS = ("house", "number", "day", "mix", "fire", "place", "look", "measure")


def mixed(text):
    """The mix of a text such as "clay 3, flint 1"."""
    return Mix(tuple((pair.split(" ")[0], int(pair.split(" ")[1])) for pair in text.split(", ")))


def parts_of(**told):
    """The eight parts of a trial, by their names, but for those told."""
    parts = {"house": "north", "number": 1, "day": 10, "mix": mixed("clay 3, flint 1"), "fire": "hot", "place": "top",
             "look": "glossy", "measure": 50}
    parts.update(told)
    return parts


def trial(**told):
    """A trial that has the told parts, and is else like all others of this function."""
    return Trial(**parts_of(**told))
