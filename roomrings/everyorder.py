"""Whether a lot can be made in any order, and how much room that takes."""

from roomrings.lotchecker import need_all
from roomrings.moving import stands_on_the_way
from roomrings.ways import counts_after, entered_between, entries, names_of, parents_of, uses_of


def every_order(tree, stand, lot):
    """Whether all orders of a lot go."""
    need_all(tree, stand, lot)
    return scarce(tree, stand, lot) == ()


def refused_order(tree, stand, lot):
    """An order of a lot that does not go and the index of its first move that cannot, None if all go."""
    need_all(tree, stand, lot)
    folders = scarce(tree, stand, lot)
    if folders == ():
        return None
    # nothing leaves the folder while all that enters it comes first
    order = with_entries_first(tree, lot, folders[0])
    return (order, len(stands_on_the_way(tree, stand, order)) - 1)


def room_for_end(tree, stand, lot):
    """A tuple of the least room of each folder with which the end of a lot fits."""
    need_all(tree, stand, lot)
    at_end = uses_of(tree, counts_after(tree, stand, lot))
    return tuple([max(now, then) for now, then in zip(uses_of(tree, stand), at_end)])


def room_for_every(tree, stand, lot):
    """A tuple of the least room of each folder with which all orders of a lot go."""
    need_all(tree, stand, lot)
    return most_used(tree, stand, lot)


def most_used(tree, stand, moves):
    """A tuple of what each folder uses if all that enters it comes before anything leaves it."""
    parents = parents_of(tree)
    uses = uses_of(tree, stand)
    return tuple([many + entries(parents, moves, name) for many, name in zip(uses, names_of(tree))])


def scarce(tree, stand, moves):
    """The folders that have fewer free places than moves that enter them."""
    return tuple([row[0] for row, many in zip(tree, most_used(tree, stand, moves)) if many > row[2]])


def with_entries_first(tree, moves, folder):
    """An order of these moves: first those that enter a folder, then the others."""
    parents = parents_of(tree)
    first = [move for move in moves if folder in entered_between(parents, move[0], move[1])]
    others = [move for move in moves if folder not in entered_between(parents, move[0], move[1])]
    return tuple(first + others)
