"""Trees of trials by which doubts are settled."""


def are_same(doubts, group):
    """Whether all rows of a group are the same in all looks."""
    return all([doubts[at] == doubts[group[0]] for at in group])


def parted(doubts, group, number):
    """The rows of a group by the look that one trial would show."""
    found = {}
    for at in group:
        found.setdefault(doubts[at][number], []).append(at)
    return found


def tried(doubts, shown, number, known):
    """The depth and the tree that begins with one trial, and goes on by the least trees behind it."""
    depth = 0
    branches = []
    for look in sorted(shown):
        deeper, tree = best(doubts, tuple(shown[look]), known)
        depth = max(depth, deeper)
        branches.append((look, tree))
    return (depth + 1, ("try", number, tuple(branches)))


def best_trial(doubts, group, known):
    """The least depth, and a tree of it, of a group of rows that are not all the same."""
    told = None
    for number in range(len(doubts[group[0]])):
        shown = parted(doubts, group, number)
        # A trial that shows the same for all rows tells nothing.
        if len(shown) > 1:
            found = tried(doubts, shown, number, known)
            if told is None or found[0] < told[0]:
                told = found
    return told


def best(doubts, group, known):
    """The least depth, and a tree of it, of a group of rows; what was found before is known."""
    if are_same(doubts, group):
        return (0, ("known", group))
    if group not in known:
        known[group] = best_trial(doubts, group, known)
    return known[group]


def least_tree(doubts):
    """A tuple (depth, tree) of a tree of the least depth that settles the doubts."""
    return best(doubts, tuple(range(len(doubts))), {})


def branch_of(branches, look):
    """The tree behind a look, or None."""
    for own, tree in branches:
        if own == look:
            return tree
    return None


def leads_to(tree, row):
    """The numbers to which a tree leads by the looks of a row, or None where it leads nowhere."""
    here = tree
    # Step by step, as a tree that is handed in may be deeper than calls go.
    while here is not None and here[0] == "try":
        number = here[1]
        # Python would count a number below 0 from the end.
        here = branch_of(here[2], row[number]) if 0 <= number < len(row) else None
    return None if here is None else here[1]


def settles(doubts, tree):
    """Whether a tree leads from each row to just those rows that are the same."""
    for row in doubts:
        same = tuple([at for at, other in enumerate(doubts) if other == row])
        if leads_to(tree, row) != same:
            return False
    return True
