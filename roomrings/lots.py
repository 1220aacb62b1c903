"""Lots with one move more or less."""

from roomrings.errors import NotUsable
from roomrings.lotchecker import lot_fault, need_lot, need_move
from roomrings.standchecker import need_stand
from roomrings.treechecker import need_tree


def lot_with(tree, stand, lot, move):
    """The lot with this move once more."""
    need_tree(tree)
    need_stand(tree, stand)
    need_lot(tree, stand, lot)
    need_move(tree, move)
    longer = tuple(sorted([*lot, move]))
    if lot_fault(tree, stand, longer) is not None:
        raise NotUsable("move", move)
    return longer


def lot_without(tree, stand, lot, move):
    """The lot with this move once less."""
    need_tree(tree)
    need_stand(tree, stand)
    need_lot(tree, stand, lot)
    need_move(tree, move)
    if move not in lot:
        raise NotUsable("move", move)
    k = lot.index(move)
    return lot[:k] + lot[k + 1:]
