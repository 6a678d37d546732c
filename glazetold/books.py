"""Books of trials and bags, and how trials of several houses are joined."""

from glazetold.doings import did, ranked
from glazetold.errors import Clash, NoDay, NoName, Nothing, Twice
from glazetold.mixes import is_name
from glazetold.trials import copy_of, is_day, pairs


def not_known(trials, known):
    """Copies of those trials, each once, by house and number, that are not known; Clash where two are unlike."""
    found = {}
    clashes = []
    for trial in trials:
        key = (trial.house, trial.number)
        same = known[key] if key in known else found.setdefault(key, trial)
        if same != trial:
            clashes.append(key)
    if clashes:
        house, number = min(clashes)
        raise Clash(house, number)
    return {key: copy_of(found[key]) for key in found}


def joined(lists):
    """The list of all trials of the lists, each once, rising by house and number."""
    found = not_known([trial for trials in lists for trial in trials], {})
    return [found[key] for key in sorted(found)]


def count_houses(keys):
    """How many houses there are in a dict by house and number."""
    return len({house for house, number in keys})


class Book:
    """A book of trials and bags, told one by one."""

    def __init__(self):
        # Trials by house and number, copies that are never handed out.
        self.held = {}
        # Pairs (stuff, day) as the keys.
        self.bag_days = {}
        # What each deed told anew, as two lists of keys, so that it can be taken back.
        self.deeds = []

    def tell(self, trial):
        """Tells a trial: whether the book had it not."""
        return self.join([trial]) == 1

    def join(self, trials):
        """Tells a list of trials, all or none: how many the book had not."""
        found = not_known(trials, self.held)
        for key in found:
            self.held[key] = found[key]
        self.deeds.append((list(found), []))
        return len(found)

    def new_bag(self, stuff, day):
        """Tells that from the day on a new bag of the stuff is used."""
        if not is_name(stuff):
            raise NoName("this is no name of a stuff")
        if not is_day(day):
            raise NoDay("this is no day")
        if (stuff, day) in self.bag_days:
            raise Twice("this bag was told before")
        self.bag_days[(stuff, day)] = True
        self.deeds.append(([], [(stuff, day)]))

    def take_back(self):
        """Takes back what was told last, and not taken back."""
        if not self.deeds:
            raise Nothing("there is nothing to take back")
        told_trials, told_bags = self.deeds.pop()
        for key in told_trials:
            del self.held[key]
        for bag in told_bags:
            del self.bag_days[bag]

    def sorted_trials(self):
        """The book's own trials, rising by house and number; not for the asker."""
        return [self.held[key] for key in sorted(self.held)]

    def trials(self):
        """The list of all trials, rising by house and number."""
        return [copy_of(trial) for trial in self.sorted_trials()]

    def bags(self):
        """The tuple of all bags, rising."""
        return tuple(sorted(self.bag_days))

    def pairs(self):
        """The trials that are unlike in just one thing."""
        return pairs(self.sorted_trials(), self.bags())

    def did(self, change):
        """What a change of a thing did."""
        return did(self.sorted_trials(), change, self.bags())

    def ranked(self):
        """How the places are ranked."""
        return ranked(self.sorted_trials(), self.bags())

    def __eq__(self, other):
        return isinstance(other, Book) and self.held == other.held and self.bag_days == other.bag_days

    def __len__(self):
        return len(self.held)

    def __str__(self):
        return f"{len(self.held)} trials of {count_houses(self.held)} houses, {len(self.bag_days)} bags"
