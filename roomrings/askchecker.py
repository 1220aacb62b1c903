"""Moves that are asked and wait to be done, judged."""

from roomrings.errors import InvalidPaper, NotUsable
from roomrings.everyorder import scarce
from roomrings.lotchecker import need_all


def lets_asked(tree, stand, lot, thing):
    """How many moves are asked; InvalidPaper for any value that is no sorted tuple of moves that can be asked."""
    need_all(tree, stand, lot)
    fault = asked_fault(tree, stand, lot, thing)
    if fault is not None:
        raise InvalidPaper(fault[0], fault[1])
    return len(thing)


def need_asked(tree, stand, lot, asked):
    """NotUsable for the first of tree, stand, lot and asked that cannot be used."""
    need_all(tree, stand, lot)
    if asked_fault(tree, stand, lot, asked) is not None:
        raise NotUsable("asked", -1)


def asked_fault(tree, stand, lot, thing):
    """The word and the place of what is wrong first in any value as moves that are asked, None for such moves."""
    if not isinstance(thing, tuple):
        return ("shape", -1)
    for k, move in enumerate(thing):
        if thing[:k].count(move) >= lot.count(move) or (k > 0 and move < thing[k - 1]):
            return ("move", k)
    # a move that is asked holds a place wherever it will enter, as if nothing left before
    crowded = scarce(tree, stand, thing)
    if crowded != ():
        return ("full", crowded[0])
    return None
