"""What the change of a thing did, which places are better, and where a wished measure lies."""

from glazetold.blends import place_on
from glazetold.errors import NoChange
from glazetold.fractions import rising
from glazetold.mixes import Mix, is_name
from glazetold.trials import pairs


def is_change(change):
    """Whether a tuple is a change of a thing from one to another one."""
    if not isinstance(change, tuple) or len(change) != 3:
        return False
    thing, one, other = change
    if thing == "mix":
        return isinstance(one, Mix) and isinstance(other, Mix) and one != other
    if thing == "fire" or thing == "place":
        return is_name(one) and is_name(other) and one != other
    return False


def thing_of(trial, thing):
    """What a trial has of a thing: its mix, its fire or its place."""
    if thing == "mix":
        return trial.mix
    if thing == "fire":
        return trial.fire
    return trial.place


def changed(trials, change, bags):
    """The rising list of tuples (place of the one, place of the other) of trials with just this change."""
    thing, one, other = change
    found = []
    for first, second, unlike_thing in pairs(trials, bags):
        if unlike_thing == thing:
            has = (thing_of(trials[first], thing), thing_of(trials[second], thing))
            if has == (one, other):
                found.append((first, second))
            elif has == (other, one):
                found.append((second, first))
    return sorted(found)


def word_of(trials, ahead, behind):
    """What the measure did from the trial ahead to the one behind."""
    difference = trials[behind].measure - trials[ahead].measure
    if difference > 0:
        return "more"
    if difference < 0:
        return "less"
    return "same"


def did(trials, change, bags=None):
    """What a change of a thing did: sure, open or none."""
    if not is_change(change):
        raise NoChange("this is no change of a thing from one to another one")
    found = changed(trials, change, bags)
    if not found:
        return ("none",)
    words = [word_of(trials, ahead, behind) for ahead, behind in found]
    for pair, word in zip(found, words):
        if word != words[0]:
            return ("open", found[0], pair)
    return ("sure", words[0], found)


def sure_betters(trials, bags):
    """For each place told in the trials the rising list of the places that are better."""
    # All changes of places are gone through at once; each pair of trials tells of the change both ways about.
    always = {}
    for one, other, thing in pairs(trials, bags):
        if thing == "place":
            for ahead, behind in ((one, other), (other, one)):
                change = (trials[ahead].place, trials[behind].place)
                always[change] = always.get(change, True) and word_of(trials, ahead, behind) == "more"
    betters = {trial.place: [] for trial in trials}
    for worse, better in sorted(always):
        if always[(worse, better)]:
            betters[worse].append(better)
    return betters


def ring_among(left, betters):
    """A ring of places of those left, each of which has a better one among them."""
    way = []
    here = min(list(left))
    while here not in way:
        way.append(here)
        here = [better for better in betters[here] if better in left][0]
    # The way leads from each place to a better one, and a ring is told the other way about.
    return way[way.index(here):][::-1]


def ranked(trials, bags=None):
    """The places told in the trials in the first order that goes by what is better, or a ring of them."""
    betters = sure_betters(trials, bags)
    waits = {place: len(betters[place]) for place in betters}
    order = []
    while waits:
        free = [place for place in waits if waits[place] == 0]
        if not free:
            return ("ring", ring_among(waits, betters))
        least = min(free)
        order.append(least)
        del waits[least]
        for place in list(waits):
            if least in betters[place]:
                waits[place] -= 1
    return ("order", order)


def measures_on(trials, one, other, fire, place):
    """The measures of all trials of a fire and a place that lie on a line, by the fractions at which they lie."""
    measures = {}
    for trial in trials:
        if trial.fire == fire and trial.place == place:
            spot = place_on(one, other, trial.mix)
            if spot is not None:
                measures.setdefault(spot, []).append(trial.measure)
    return measures


def lies(trials, one, other, fire, place, wished):
    """The list of tuples of two fractions on a line of mixes between which a wished measure lies."""
    measures = measures_on(trials, one, other, fire, place)
    spots = rising(list(measures))
    found = []
    for at, spot in enumerate(spots):
        for further in spots[at:at + 2]:
            both = measures[spot] + measures[further]
            if min(both) <= wished <= max(both):
                found.append((spot, further))
    return found
