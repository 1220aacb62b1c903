"""Moves turned about."""

from roomrings.ends import need_end
from roomrings.errors import NotUsable
from roomrings.kinds import is_moves
from roomrings.lotchecker import need_all
from roomrings.ways import counts_after, turned_about


def turned_lot(lot):
    """The sorted tuple of the moves of a lot, each from its target to its source."""
    if not is_moves(lot):
        raise NotUsable("lot", -1)
    return tuple(sorted(turned_about(lot)))


def turned_stand(tree, stand, lot):
    """The stand at the end of a lot, of which the lot turned about is a lot."""
    need_all(tree, stand, lot)
    need_end(tree, stand, lot)
    return counts_after(tree, stand, lot)
