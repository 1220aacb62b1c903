"""Lots judged."""

from roomrings.errors import InvalidPaper, NotUsable
from roomrings.kinds import is_move
from roomrings.standchecker import need_stand
from roomrings.treechecker import need_tree
from roomrings.treeparts import has_spot


def lets_lot(tree, stand, thing):
    """How many moves a lot of the stand has; InvalidPaper for any value that is no lot of it."""
    need_tree(tree)
    need_stand(tree, stand)
    fault = lot_fault(tree, stand, thing)
    if fault is not None:
        raise InvalidPaper(fault[0], fault[1])
    return len(thing)


def need_lot(tree, stand, lot):
    """NotUsable for any value that is no lot of the stand."""
    if lot_fault(tree, stand, lot) is not None:
        raise NotUsable("lot", -1)


def need_all(tree, stand, lot):
    """NotUsable for the first of tree, stand and lot that cannot be used."""
    need_tree(tree)
    need_stand(tree, stand)
    need_lot(tree, stand, lot)


def need_moves(tree, lot):
    """NotUsable for any value that is no sorted tuple of moves between spots of the tree."""
    if moves_fault(tree, lot) is not None:
        raise NotUsable("lot", -1)


def need_move(tree, move):
    """NotUsable for any value that is no move between spots of the tree."""
    if not is_between(tree, move):
        raise NotUsable("move", move)


def is_between(tree, thing):
    """Whether any value is a move between spots of the tree."""
    return is_move(thing) and has_spot(tree, thing[0]) and has_spot(tree, thing[1])


def lot_fault(tree, stand, thing):
    """The word and the place of what is wrong first in any value as a lot, None for a lot."""
    fault = moves_fault(tree, thing)
    if fault is None:
        fault = files_fault(tree, stand, thing)
    return fault


def moves_fault(tree, thing):
    """The first fault of any value as a sorted tuple of moves between spots of the tree."""
    if not isinstance(thing, tuple):
        return ("shape", -1)
    for k, move in enumerate(thing):
        if not is_between(tree, move) or (k > 0 and move < thing[k - 1]):
            return ("move", k)
    return None


def files_fault(tree, stand, lot):
    """The least folder that is the source of more moves than files lie in it directly."""
    sources = [move[0] for move in lot]
    for row, many in zip(tree, stand):
        if sources.count(row[0]) > many:
            return ("files", row[0])
    return None
