"""Blends of mixes, lines and triangles of them, and where on these a mix lies."""

from glazetold.errors import NoTriangle, NoWeights
from glazetold.fractions import NOUGHT, common_multiple, fraction
from glazetold.mixes import mix_of


def check_weights(mixes, weights):
    """Refuses weights by which the mixes are not blended."""
    if len(weights) != len(mixes):
        raise NoWeights("there are not as many weights as mixes")
    if any([weight < 0 for weight in weights]):
        raise NoWeights("a weight is below nought")
    if all([weight == 0 for weight in weights]):
        raise NoWeights("all weights are nought")


def common_whole(mixes):
    """A whole by which each of the mixes has whole numbers of all its stuffs."""
    whole = 1
    for mix in mixes:
        whole = common_multiple(whole, mix.total)
    return whole


def amounts_of(mix, whole):
    """How much of each stuff the whole, a multiple of the mix's least one, has."""
    times = whole // mix.total
    return {stuff: amount * times for stuff, amount in mix.least()}


def blend(mixes, weights):
    """The mix that has of each stuff the shares of the mixes, each as often as its weight."""
    check_weights(mixes, weights)
    whole = common_whole(mixes)
    blended = {}
    for mix, weight in zip(mixes, weights):
        # By the weight nought a mix adds no stuff, not even an amount of nought.
        if weight > 0:
            for stuff, amount in amounts_of(mix, whole).items():
                blended[stuff] = blended.get(stuff, 0) + weight * amount
    return mix_of(tuple(blended.items()))


def line(one, other, steps=4):
    """The list of the blends from one mix to another one."""
    return [blend([one, other], [steps - at, at]) for at in range(steps + 1)]


def triangle(one, two, three, steps=3):
    """The list of tuples (weights, blend) of three mixes, rising by weights."""
    mixes = [one, two, three]
    found = []
    for first in range(steps + 1):
        for second in range(steps - first + 1):
            weights = (first, second, steps - first - second)
            found.append((weights, blend(mixes, weights)))
    return found


def rows_of(mixes):
    """For each mix the row of its amounts of all stuffs of the mixes, by a common whole."""
    whole = common_whole(mixes)
    amounts = [amounts_of(mix, whole) for mix in mixes]
    stuffs = sorted({stuff for own in amounts for stuff in own})
    return [[own.get(stuff, 0) for stuff in stuffs] for own in amounts]


def way_from(start, end):
    """The row of differences from one row to another."""
    return [there - here for here, there in zip(start, end)]


def first_unlike_nought(row):
    """The place of the first number of a row that is not nought, or None."""
    for at, number in enumerate(row):
        if number != 0:
            return at
    return None


def place_on(one, other, mix):
    """The fraction at which the mix lies on the line from one mix to another one, or None."""
    start, end, own = rows_of([one, other, mix])
    side = way_from(start, end)
    way = way_from(start, own)
    at = first_unlike_nought(side)
    if at is None:
        return NOUGHT if mix == one else None
    top, bottom = way[at], side[at]
    if bottom < 0:
        top, bottom = -top, -bottom
    if not 0 <= top <= bottom:
        return None
    if any([step * bottom != whole * top for step, whole in zip(way, side)]):
        return None
    return fraction(top, bottom)


def crossed(row, other, at, more):
    """The determinant of two rows by two of their places, nought where by these one row is a multiple of the other."""
    return row[at] * other[more] - row[more] * other[at]


def corner_of(side, other):
    """Two places by which the sides of a triangle are told apart; NoTriangle where there are none."""
    first = first_unlike_nought(side)
    if first is None:
        raise NoTriangle("the first two of the three mixes are alike")
    # The side is not nought at the first place, so unless the other is a multiple of it, some place beside shows it.
    second = first_unlike_nought([crossed(side, other, first, more) for more in range(len(side))])
    if second is None:
        raise NoTriangle("all three mixes are on a line")
    return (first, second)


def place_in(one, two, three, mix):
    """The tuple of three fractions at which the mix lies in the triangle of three mixes, or None."""
    start, second, third, own = rows_of([one, two, three, mix])
    side, other, way = way_from(start, second), way_from(start, third), way_from(start, own)
    at, more = corner_of(side, other)
    bottom = crossed(side, other, at, more)
    twos = crossed(way, other, at, more)
    threes = crossed(side, way, at, more)
    if bottom < 0:
        bottom, twos, threes = -bottom, -twos, -threes
    ones = bottom - twos - threes
    if min(ones, twos, threes) < 0:
        return None
    if any([step * bottom != here * twos + there * threes for step, here, there in zip(way, side, other)]):
        return None
    return (fraction(ones, bottom), fraction(twos, bottom), fraction(threes, bottom))
