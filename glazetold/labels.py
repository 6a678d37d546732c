"""What a tile without a label can be, and how several tiles are labelled at once."""

from glazetold.trials import bags_used


def can_be(trials, bags, tile, mixes):
    """The rising list of the places of those mixes that a tile without a label can be."""
    day, fire, place, look, measure = tile
    # Only trials of the tile's fire and place that came out otherwise than it speak against a mix.
    against = [
        trial for trial in trials
        if trial.fire == fire and trial.place == place and (trial.look != look or trial.measure != measure)
    ]
    found = []
    for at, mix in enumerate(mixes):
        used = bags_used(bags, mix, day)
        if not any([trial.mix == mix and bags_used(bags, mix, trial.day) == used for trial in against]):
            found.append(at)
    return found


def give_number(some, tile, owners, asked):
    """Whether the tile gets a number, others giving way to it where they can; asked are the tiles gone through."""
    asked.append(tile)
    for number in some[tile]:
        if number not in owners or (owners[number] not in asked and give_number(some, owners[number], owners, asked)):
            owners[number] = tile
            return True
    return False


def too_few(some):
    """A rising list of tiles that have fewer numbers together than they are, or None."""
    owners = {}
    for tile in range(len(some)):
        asked = []
        # Where it gets none, all numbers of the tiles asked are owned by the others of them.
        if not give_number(some, tile, owners, asked):
            return sorted(asked)
    return None


def leaves_enough(some, tile, number):
    """Whether all other tiles can be labelled where this one has the number."""
    others = [[own for own in numbers if own != number] for at, numbers in enumerate(some) if at != tile]
    return too_few(others) is None


def labelled(some):
    """For each tile those of its numbers by which all can be labelled, or tiles for which there are too few."""
    tiles = too_few(some)
    if tiles is not None:
        return ("few", tiles)
    return ("can", [
        [number for number in numbers if leaves_enough(some, tile, number)] for tile, numbers in enumerate(some)
    ])
