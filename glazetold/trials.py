"""Trials, the bags their stuffs came from, and in which things trials are unlike."""

from glazetold.errors import NoTrial
from glazetold.fractions import is_whole
from glazetold.mixes import is_name, mix_of

MOST_NUMBER = 10 ** 6
MOST_DAY = 10 ** 6
MOST_MEASURE = 1000


def is_within(thing, least, most):
    """Whether a thing is a whole number from the least to the most."""
    return is_whole(thing) and least <= thing <= most


def is_day(thing):
    """Whether a thing is a day."""
    return is_within(thing, 0, MOST_DAY)


def check_trial(house, number, day, fire, place, look, measure):
    """Refuses parts of which no trial is made, by the first that is none."""
    checked = (
        ("house", is_name(house)),
        ("number", is_within(number, 1, MOST_NUMBER)),
        ("day", is_day(day)),
        ("fire", is_name(fire)),
        ("place", is_name(place)),
        ("look", is_name(look)),
        ("measure", is_within(measure, 0, MOST_MEASURE)),
    )
    for word, right in checked:
        if not right:
            raise NoTrial(word)


class Trial:
    """One trial of a mix, told by a row."""

    def __init__(self, house, number, day, mix, fire, place, look, measure):
        check_trial(house, number, day, fire, place, look, measure)
        self.house = house
        self.number = number
        self.day = day
        # What is handed in is kept as a copy only.
        self.mix = mix_of(mix.least())
        self.fire = fire
        self.place = place
        self.look = look
        self.measure = measure

    def __eq__(self, other):
        return (
            isinstance(other, Trial) and self.house == other.house and self.number == other.number
            and self.day == other.day and self.mix == other.mix and self.fire == other.fire
            and self.place == other.place and self.look == other.look and self.measure == other.measure
        )


def copy_of(trial):
    """A trial of its own that has the same parts."""
    return Trial(
        trial.house, trial.number, trial.day, trial.mix, trial.fire, trial.place, trial.look, trial.measure
    )


def bag_of(bags, stuff, day):
    """The bag of a stuff on a day: how many of its days are not later."""
    return len([since for own, since in bags if own == stuff and since <= day])


def parts(trials, bags, stuff):
    """The list of tuples (bag, numbers): which trials have the stuff from which bag."""
    found = {}
    for at, trial in enumerate(trials):
        if stuff in [own for own, amount in trial.mix.least()]:
            found.setdefault(bag_of(bags, stuff, trial.day), []).append(at)
    return [(bag, found[bag]) for bag in sorted(found)]


def bags_used(bags, mix, day):
    """The bag of each stuff of a mix on a day, rising by stuffs."""
    # As bag_of tells for one stuff, but for all of them the bags are gone through only once.
    used = {stuff: 0 for stuff, amount in mix.least()}
    for stuff, since in bags:
        if stuff in used and since <= day:
            used[stuff] += 1
    return used


def unlike_but_bags(one, other):
    """Those of mix, fire and place in which two trials are unlike."""
    compared = (
        ("mix", one.mix == other.mix),
        ("fire", one.fire == other.fire),
        ("place", one.place == other.place),
    )
    return [thing for thing, same in compared if not same]


def unlike_bags(used, others):
    """A thing for each stuff that two trials both have, and have from unlike bags."""
    return [f"bag {stuff}" for stuff in used if stuff in others and used[stuff] != others[stuff]]


def unlike(bags, one, other):
    """The list of things in which two trials are unlike."""
    used, others = bags_used(bags, one.mix, one.day), bags_used(bags, other.mix, other.day)
    return unlike_but_bags(one, other) + unlike_bags(used, others)


def pairs(trials, bags=None):
    """The list of tuples (one, other, thing) of all trials that are unlike in just one thing."""
    told = () if bags is None else bags
    used = [bags_used(told, trial.mix, trial.day) for trial in trials]
    found = []
    for one in range(len(trials)):
        for other in range(one + 1, len(trials)):
            things = unlike_but_bags(trials[one], trials[other])
            # Where two things are unlike already, the bags make no difference.
            if len(things) < 2:
                things += unlike_bags(used[one], used[other])
            if len(things) == 1:
                found.append((one, other, things[0]))
    return found
