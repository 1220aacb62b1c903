"""Which folders a move enters and leaves."""

from roomrings.lotchecker import need_move, need_moves
from roomrings.treechecker import need_tree
from roomrings.treeparts import need_folder
from roomrings.ways import entered_between, entries, parents_of, turned_about


def entered(tree, move):
    """The set of the folders that a move enters."""
    need_tree(tree)
    need_move(tree, move)
    return entered_between(parents_of(tree), move[0], move[1])


def left_by(tree, move):
    """The set of the folders that a move leaves."""
    need_tree(tree)
    need_move(tree, move)
    # a move leaves what it would enter if it were turned about
    return entered_between(parents_of(tree), move[1], move[0])


def entering(tree, lot, folder):
    """How many moves of a lot enter a folder."""
    need_tree(tree)
    need_moves(tree, lot)
    need_folder(tree, folder)
    return entries(parents_of(tree), lot, folder)


def leaving(tree, lot, folder):
    """How many moves of a lot leave a folder."""
    need_tree(tree)
    need_moves(tree, lot)
    need_folder(tree, folder)
    return entries(parents_of(tree), turned_about(lot), folder)
