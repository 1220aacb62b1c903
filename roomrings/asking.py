"""Moves that are asked now and done later."""

from roomrings.askchecker import need_asked
from roomrings.everyorder import most_used, scarce
from roomrings.goers import has_order, order_of
from roomrings.lotchecker import need_move
from roomrings.treeparts import need_folder
from roomrings.ways import counts_after, names_of, without_one


def held_in(tree, stand, lot, asked, folder):
    """How many places of a folder are used and held."""
    need_asked(tree, stand, lot, asked)
    need_folder(tree, folder)
    return most_used(tree, stand, asked)[names_of(tree).index(folder)]


def can_ask(tree, stand, lot, asked, move):
    """Whether a move can be asked, beside those that are asked already."""
    need_asked(tree, stand, lot, asked)
    need_move(tree, move)
    if asked.count(move) >= lot.count(move):
        return False
    return scarce(tree, stand, (*asked, move)) == ()


def can_finish(tree, stand, lot, asked):
    """Whether all moves of a lot can be asked and done, where these are asked."""
    need_asked(tree, stand, lot, asked)
    return has_order(tree, counts_after(tree, stand, asked), not_asked(lot, asked))


def finishing(tree, stand, lot, asked):
    """Any tuple of steps after which all moves of a lot are done, None if there is none."""
    need_asked(tree, stand, lot, asked)
    # no step "done" bars anything, so those that are asked come first
    stand = counts_after(tree, stand, asked)
    rest = not_asked(lot, asked)
    if not has_order(tree, stand, rest):
        return None
    steps = [("done", source, target) for source, target in asked]
    for source, target in order_of(tree, stand, rest):
        steps.extend([("ask", source, target), ("done", source, target)])
    return tuple(steps)


def not_asked(lot, asked):
    """The moves of a lot that are not asked."""
    for move in asked:
        lot = without_one(lot, move)
    return lot
