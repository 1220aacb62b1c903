"""What is around what in a tree, for values that were looked at already.

Nothing is checked here: these functions serve the modules that have done so, or are about to.
"""


def names_of(tree):
    """The names of the folders, in the order of the tree."""
    return tuple([row[0] for row in tree])


def parents_of(tree):
    """A dict of the parent of each folder."""
    return {row[0]: row[1] for row in tree}


def comes_out(parents, name):
    """Whether following parents from a folder one comes to ""."""
    # who has not come out after as many steps as there are folders goes round for ever
    for _ in range(len(parents)):
        if name == "":
            return True
        name = parents[name]
    return name == ""


def way_from(parents, spot):
    """The tuple of the folders around a spot, the innermost one first."""
    way = []
    while spot != "":
        way.append(spot)
        spot = parents[spot]
    return tuple(way)


def ways_of(tree):
    """A list of the folders around each folder, in the order of the tree."""
    parents = parents_of(tree)
    return [way_from(parents, row[0]) for row in tree]


def uses_of(tree, counts):
    """A tuple of how many files each folder uses if so many lie in each of them directly."""
    ways = ways_of(tree)
    return tuple([sum([many for way, many in zip(ways, counts) if row[0] in way]) for row in tree])


def overfull(tree, counts):
    """The folders that use more than their room if so many files lie in each of them directly."""
    return tuple([row[0] for row, many in zip(tree, uses_of(tree, counts)) if many > row[2]])


def full_of(tree, counts):
    """The set of the folders that use just their room if so many files lie in each of them directly."""
    return tuple([row[0] for row, many in zip(tree, uses_of(tree, counts)) if many == row[2]])


def counts_shifted(tree, counts, bulks):
    """How many files lie in each folder directly after such moves, each so often, whether they can go or not."""
    brought = [(target, times) for source, target, times in bulks]
    taken = [(source, -times) for source, target, times in bulks]
    changes = brought + taken
    return tuple([many + sum([change for spot, change in changes if spot == row[0]])
                  for row, many in zip(tree, counts)])


def counts_after(tree, counts, moves):
    """How many files lie in each folder directly after these moves, whether they can go or not."""
    return counts_shifted(tree, counts, [(source, target, 1) for source, target in moves])


def without_one(moves, move):
    """A tuple of moves with one of them once less."""
    k = moves.index(move)
    return moves[:k] + moves[k + 1:]


def entries(parents, moves, folder):
    """How many of these moves enter a folder."""
    return len([source for source, target in moves if folder in entered_between(parents, source, target)])


def turned_about(moves):
    """A list of these moves, each from its target to its source."""
    return [(target, source) for source, target in moves]


def entered_between(parents, source, target):
    """The set of the folders that are around target and not around source."""
    behind = way_from(parents, source)
    return tuple(sorted([name for name in way_from(parents, target) if name not in behind]))


def with_more_room(tree, folders):
    """The tree in which each of these folders has one place more."""
    return tuple([(name, parent, room + 1 if name in folders else room) for name, parent, room in tree])
