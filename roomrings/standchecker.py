"""Stands judged."""

from roomrings.errors import InvalidPaper, NotUsable
from roomrings.kinds import is_number
from roomrings.treechecker import need_tree
from roomrings.ways import overfull


def lets_stand(tree, thing):
    """How many files a stand of the tree has; InvalidPaper for any value that is no stand of it."""
    need_tree(tree)
    fault = stand_fault(tree, thing)
    if fault is not None:
        raise InvalidPaper(fault[0], fault[1])
    return sum(thing)


def need_stand(tree, stand):
    """NotUsable for any value that is no stand of the tree."""
    if stand_fault(tree, stand) is not None:
        raise NotUsable("stand", -1)


def stand_fault(tree, thing):
    """The word and the place of what is wrong first in any value as a stand, None for a stand."""
    if not isinstance(thing, tuple) or len(thing) != len(tree):
        return ("shape", -1)
    for k, many in enumerate(thing):
        if not is_number(many):
            return ("count", k)
    crowded = overfull(tree, thing)
    if crowded != ():
        return ("full", crowded[0])
    return None
