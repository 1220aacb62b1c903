"""The guard, who lets just the moves that leave no ring behind them."""

from roomrings.goers import is_harmless
from roomrings.lotchecker import need_all, need_move


def is_let(tree, stand, lot, move):
    """Whether the guard lets a move."""
    need_all(tree, stand, lot)
    need_move(tree, move)
    return move in lot and is_harmless(tree, stand, lot, move)


def let_moves(tree, stand, lot):
    """The set of the moves of a lot that the guard lets."""
    need_all(tree, stand, lot)
    return tuple([move for move in sorted(set(lot)) if is_harmless(tree, stand, lot, move)])
