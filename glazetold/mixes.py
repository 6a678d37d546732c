"""Mixes: stuffs and their shares, by whatever whole they were told."""

from glazetold.errors import NoMix
from glazetold.fractions import NOUGHT, common_measure, figures, fraction, is_whole

LETTERS = "abcdefghijklmnopqrstuvwxyz"
MOST_LETTERS = 8
MOST_PAIRS = 60


def is_name(thing):
    """Whether a thing is a name."""
    if not isinstance(thing, str) or not 1 <= len(thing) <= MOST_LETTERS:
        return False
    return all([letter in LETTERS for letter in thing])


def is_pair(thing):
    """Whether a thing is a pair of a stuff and its amount."""
    if not isinstance(thing, tuple) or len(thing) != 2:
        return False
    stuff, amount = thing
    return is_name(stuff) and is_whole(amount) and amount >= 1


def check_parts(parts):
    """Refuses anything that no mix can be made of."""
    if not isinstance(parts, tuple) or not 1 <= len(parts) <= MOST_PAIRS:
        raise NoMix(None)
    seen = set()
    for at, pair in enumerate(parts):
        # A pair that is none may hold what no set takes, so it is looked at first.
        if not is_pair(pair) or pair[0] in seen:
            raise NoMix(at)
        seen.add(pair[0])


def least_amounts(parts):
    """The same pairs by the least whole numbers, rising by stuffs."""
    measure = 0
    for stuff, amount in parts:
        measure = common_measure(measure, amount)
    return tuple(sorted([(stuff, amount // measure) for stuff, amount in parts]))


class Mix:
    """A mix, made of a tuple of pairs (stuff, amount)."""

    def __init__(self, parts):
        check_parts(parts)
        # Mixes are equal just where their least amounts are, so no other whole is kept.
        self.amounts = least_amounts(parts)
        self.total = sum([amount for stuff, amount in self.amounts])

    def shares(self):
        """Pairs (stuff, fraction) of the whole, rising by stuffs."""
        return self.weighed(1)

    def share(self, stuff):
        """The share of one stuff, nought where the mix has it not."""
        for own, amount in self.amounts:
            if own == stuff:
                return fraction(amount, self.total)
        return NOUGHT

    def weighed(self, whole=100):
        """Pairs (stuff, fraction): how much of each stuff the whole has."""
        return tuple([(stuff, fraction(amount * whole, self.total)) for stuff, amount in self.amounts])

    def least(self):
        """Pairs (stuff, amount), the least whole numbers that make the mix."""
        return self.amounts

    def __eq__(self, other):
        return isinstance(other, Mix) and self.amounts == other.amounts

    def __len__(self):
        return len(self.amounts)

    def __str__(self):
        return ", ".join([f"{stuff} {figures(amount)}" for stuff, amount in self.amounts])


def mix_of(parts):
    """A mix of pairs that are known to be right, also of more pairs than are told at once."""
    # A blend of mixes beyond the bounds may have more stuffs than a mix is told of, and no refusal is due there.
    mix = Mix(parts[:1])
    mix.amounts = least_amounts(parts)
    mix.total = sum([amount for stuff, amount in mix.amounts])
    return mix
