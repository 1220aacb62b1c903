"""What lies in the folders at the end of a lot."""

from roomrings.errors import NotUsable
from roomrings.lotchecker import need_all
from roomrings.ways import counts_after, overfull


def end_counts(tree, stand, lot):
    """A tuple of how many files lie in each folder directly at the end of a lot."""
    need_all(tree, stand, lot)
    return counts_after(tree, stand, lot)


def fits(tree, stand, lot):
    """Whether the end of a lot fits."""
    need_all(tree, stand, lot)
    return overfull_at_end(tree, stand, lot) == ()


def misfits(tree, stand, lot):
    """The set of the folders that use more than their room at the end of a lot."""
    need_all(tree, stand, lot)
    return overfull_at_end(tree, stand, lot)


def overfull_at_end(tree, stand, moves):
    """The folders that use more than their room after these moves, whether they can go or not."""
    return overfull(tree, counts_after(tree, stand, moves))


def need_end(tree, stand, lot):
    """NotUsable for a lot whose end does not fit."""
    crowded = overfull_at_end(tree, stand, lot)
    if crowded != ():
        raise NotUsable("end", crowded[0])
