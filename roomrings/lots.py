"""Lots with one move more or less."""

from roomrings.errors import NotUsable
from roomrings.lotchecker import lot_fault, need_all, need_move
from roomrings.ways import without_one


def lot_with(tree, stand, lot, move):
    """The lot with this move once more."""
    need_all(tree, stand, lot)
    need_move(tree, move)
    longer = tuple(sorted([*lot, move]))
    if lot_fault(tree, stand, longer) is not None:
        raise NotUsable("move", move)
    return longer


def lot_without(tree, stand, lot, move):
    """The lot with this move once less."""
    need_all(tree, stand, lot)
    need_move(tree, move)
    if move not in lot:
        raise NotUsable("move", move)
    return without_one(lot, move)
