"""Lots in which each move has a number of times."""

from roomrings.bulkchecker import need_bulks
from roomrings.errors import NotUsable
from roomrings.kinds import is_moves
from roomrings.rings import greatest_of
from roomrings.standchecker import need_stand
from roomrings.treechecker import need_tree
from roomrings.ways import counts_shifted, overfull


def bulks_of(lot):
    """The bulks that stand for a lot."""
    if not is_moves(lot):
        raise NotUsable("lot", -1)
    bulks = []
    for source, target in lot:
        if bulks != [] and bulks[-1][:2] == (source, target):
            bulks[-1] = (source, target, bulks[-1][2] + 1)
        else:
            bulks.append((source, target, 1))
    return tuple(bulks)


def all_bulks_go(tree, stand, bulks):
    """Whether some order of all the moves that bulks stand for goes."""
    need_tree(tree)
    need_stand(tree, stand)
    need_bulks(tree, stand, bulks)
    crowded = overfull(tree, counts_shifted(tree, stand, bulks))
    return crowded == () and ring_of_bulks(tree, stand, bulks) == ()


def bulks_ring(tree, stand, bulks):
    """The greatest ring of the moves that bulks stand for, () if there is none."""
    need_tree(tree)
    need_stand(tree, stand)
    need_bulks(tree, stand, bulks)
    return ring_of_bulks(tree, stand, bulks)


def ring_of_bulks(tree, stand, bulks):
    """The greatest ring, for which it does not matter how often there is a move."""
    return greatest_of(tree, stand, [bulk[:2] for bulk in bulks])
