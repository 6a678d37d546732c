"""Whole numbers, and fractions as tuples (top, bottom) in lowest terms."""

NOUGHT = (0, 1)

BLOCK_FIGURES = 64
BLOCK = 10 ** 64


def is_whole(thing):
    """Whether a thing is a whole number."""
    return isinstance(thing, int) and not isinstance(thing, bool)


def common_measure(one, other):
    """The greatest common measure of two whole numbers from 0 on; of 0 and a number it is this number."""
    while other != 0:
        one, other = other, one % other
    return one


def common_multiple(one, other):
    """The least common multiple of two whole numbers from 1 on."""
    return one // common_measure(one, other) * other


def fraction(top, bottom):
    """The fraction of top and bottom, a bottom from 1 on, in lowest terms."""
    measure = common_measure(abs(top), bottom)
    return (top // measure, bottom // measure)


def rising(told):
    """A new list of the told fractions, from the least one on."""
    # Unlike fractions are at least 1 / scale apart, so that times the scale their whole parts are unlike, too.
    greatest = max([bottom for top, bottom in told], default=1)
    scale = greatest * greatest
    return sorted(told, key=lambda one: one[0] * scale // one[1])


def figures(number):
    """A whole number from 0 on, written by figures."""
    # Python refuses to write some thousands of figures at once, so they are written block by block.
    blocks = []
    rest = number
    while rest >= BLOCK:
        rest, block = divmod(rest, BLOCK)
        blocks.append(str(block).zfill(BLOCK_FIGURES))
    blocks.append(str(rest))
    return "".join(blocks[::-1])
