"""What is around what in a tree, for values that were looked at already.

Nothing is checked here: these functions serve the modules that have done so, or are about to.
"""


def names_of(tree):
    """The names of the folders, in the order of the tree."""
    return tuple([row[0] for row in tree])


def parents_of(tree):
    """A dict of the parent of each folder."""
    return {row[0]: row[1] for row in tree}


def comes_out(parents, name):
    """Whether following parents from a folder one comes to ""."""
    # who has not come out after as many steps as there are folders goes round for ever
    for _ in range(len(parents)):
        if name == "":
            return True
        name = parents[name]
    return name == ""


def way_from(parents, spot):
    """The tuple of the folders around a spot, the innermost one first."""
    way = []
    while spot != "":
        way.append(spot)
        spot = parents[spot]
    return tuple(way)


def ways_of(tree):
    """A list of the folders around each folder, in the order of the tree."""
    parents = parents_of(tree)
    return [way_from(parents, row[0]) for row in tree]


def uses_of(tree, counts):
    """A tuple of how many files each folder uses if so many lie in each of them directly."""
    ways = ways_of(tree)
    return tuple([sum([many for way, many in zip(ways, counts) if row[0] in way]) for row in tree])


def overfull(tree, counts):
    """The folders that use more than their room if so many files lie in each of them directly."""
    return tuple([row[0] for row, many in zip(tree, uses_of(tree, counts)) if many > row[2]])


def entered_between(parents, source, target):
    """The set of the folders that are around target and not around source."""
    behind = way_from(parents, source)
    return tuple(sorted([name for name in way_from(parents, target) if name not in behind]))
